import PyProof.Rows.All
import Wide.All
import OpenK.AllK
import Wide.FinOn
import HandS.EndBits
import HandS.CallLocal
import HandS.Comp
import HandS.Deep
import HandS.Evl
import HandS.Flow
import HandS.ForExc
import HandS.ForMost
import HandS.IsInst
import HandS.ListItems
import HandS.More
import HandS.Set
import HandS.SetBool
import HandS.SetFor
import HandS.SortInts
import HandS.SortRule
import HandS.Strs
import HandS.Style
import HandS.TupAny
import HandS.TupMul
import HandS.Wide
import HandS.WideBits
import HandS.Zip
import HandS.Zip0
import KE.GoesEnum
import KE.GoesMore
import KE.KDictZip
import KE.KTupSum
import PyProof.CollectWalk
import PyProof.ListNew
import PyProof.ReprLen
import PyProof.ReprReads
import PyProof.StrHeap
import PySem.Challenge.RW_wellfolk_k16_limits_example
set_option Elab.async false
set_option linter.all false
set_option maxRecDepth 100000
set_option maxHeartbeats 4000000
namespace DL
open PySem L2

/-! ## 1. Heaps without some addresses; data stay -/
def frz (Z : List Addr) (H : Hp) : Hp := fun a => if a ∈ Z then none else H a
def Le (H H' : Hp) : Prop := ∀ a o, H a = some o → H' a = some o
theorem Le.refl (H : Hp) : Le H H := fun _ _ h => h
theorem Le.trans {H H1 H2 : Hp} (a : Le H H1) (b : Le H1 H2) : Le H H2 := fun x o h => b x o (a x o h)
theorem frz_some {Z : List Addr} {H : Hp} {a : Addr} {o : HO} : frz Z H a = some o ↔ a ∉ Z ∧ H a = some o := by
  unfold frz
  by_cases h : a ∈ Z
  · simp [h]
  · simp [h]
theorem frz_le {Z : List Addr} {H : Hp} : Le (frz Z H) H := fun a o h => (frz_some.mp h).2
theorem rd_le {H H' : Hp} {a : Addr} {u : HO} (e : Le H H') (h : Rd H a u) : Rd H' a u := by
  rcases h with h | ⟨o, h⟩
  · exact Or.inl (e a _ h)
  · exact Or.inr ⟨o, e a _ h⟩
theorem sql_le {K : PySem.W.Frag} {H H' : Hp} {a : Addr} {xs : List V} (e : Le H H') (h : SqL K H a xs) : SqL K H' a xs := by
  rcases h with h | h
  · exact Or.inl (rd_le e h)
  · exact Or.inr h
theorem sqt_le {K : PySem.W.Frag} {H H' : Hp} {a : Addr} {xs : List V} (e : Le H H') (h : SqT K H a xs) : SqT K H' a xs := by
  rcases h with h | h
  · exact Or.inl (rd_le e h)
  · exact Or.inr h
/-- an exception object: its class, its dict -/
def exK (a C : Addr) (d : Option Addr) : HO := .ext fun h => ∃ (o : Obj) (vs : Array Value), h.get? a = some o ∧ o.cls = .ref C ∧ o.dict = d ∧ o.data = .fields vs
/-- a set of ints, in any world with that order of sets -/
def SetOb (b : Bool) (a : Addr) (S : Int → Bool) (n : Nat) : HO := .ext fun h => ∀ w : World, w.params.followText "set-order" = b → SetR w h a S n
mutual
/-- a datum: none, a bool, an int, a text, a list or tuple of data -/
inductive Dq (H : Hp) : V → PyData → Prop
  | non : Dq H .non .none
  | bl (b : Bool) : Dq H (.bl b) (.bool b)
  | int (i : Int) : Dq H (.int i) (.int i)
  | str (x : Str) : Dq H (.str x) (.str x)
  | lst {a : Addr} {xs : List V} {ds : List PyData} : Rd H a (.lst xs) → DqAll H xs ds → Dq H (.ref a) (.list ds)
  | tup {a : Addr} {xs : List V} {ds : List PyData} : Rd H a (.tup xs) → DqAll H xs ds → Dq H (.ref a) (.tuple ds)
  | exc0 {a C : Addr} : H a = some (exK a C none) → Dq H (.ref a) (.dict [(.int (C : Int), .none)])
  | exc {a d C : Addr} {fs : List (Str × V)} {kvs : List (PyData × PyData)} : H a = some (exK a C (some d)) → H d = some (.xd fs) → DqKv H fs kvs → Dq H (.ref a) (.dict ((.int (C : Int), .none) :: kvs))
  /-- a def as a value, by its address -/
  | fn (a : Addr) : Dq H (.ref a) (.dict [(.int (a : Int), .bool true)])
  /-- a set of ints that nobody changes any more -/
  | st {a : Addr} {b : Bool} {S : Int → Bool} {n : Nat} {ks : List Int} : H a = some (SetOb b a S n) → (∀ k, S k = decide (k ∈ ks)) → Dq H (.ref a) (.dict [(.bool b, .list (ks.map .int))])
inductive DqKv (H : Hp) : List (Str × V) → List (PyData × PyData) → Prop
  | nil : DqKv H [] []
  | cons {n : Str} {v : V} {d : PyData} {fs : List (Str × V)} {kvs : List (PyData × PyData)} : Dq H v d → DqKv H fs kvs → DqKv H ((n, v) :: fs) ((.str n, d) :: kvs)
inductive DqAll (H : Hp) : List V → List PyData → Prop
  | nil : DqAll H [] []
  | cons {v : V} {vs : List V} {d : PyData} {ds : List PyData} : Dq H v d → DqAll H vs ds → DqAll H (v :: vs) (d :: ds)
end
section
variable {H H' : Hp}
mutual
theorem dp_le (e : Le H H') : ∀ (d : PyData) (v : V), Dq H v d → Dq H' v d
  | .none, _, h => by cases h; exact .non
  | .bool b, _, h => by cases h; exact .bl b
  | .int i, _, h => by cases h; exact .int i
  | .str x, _, h => by cases h; exact .str x
  | .list ds, _, h => by
    cases h with
    | lst hs ha => exact .lst (rd_le e hs) (dpa_le e ds _ ha)
  | .tuple ds, _, h => by
    cases h with
    | tup hs ha => exact .tup (rd_le e hs) (dpa_le e ds _ ha)
  | .dict kvs, _, h => by
    cases h with
    | exc0 h1 => exact .exc0 (e _ _ h1)
    | fn a => exact .fn a
    | st h1 h2 => exact .st (e _ _ h1) h2
    | exc h1 h2 h3 => exact .exc (e _ _ h1) (e _ _ h2) (dpk_le e _ _ h3)
theorem dpk_le (e : Le H H') : ∀ (kvs : List (PyData × PyData)) (fs : List (Str × V)), DqKv H fs kvs → DqKv H' fs kvs
  | [], _, h => by cases h; exact .nil
  | (_, d) :: kvs, _, h => by
    cases h with
    | cons h1 h2 => exact .cons (dp_le e d _ h1) (dpk_le e kvs _ h2)
theorem dpa_le (e : Le H H') : ∀ (ds : List PyData) (vs : List V), DqAll H vs ds → DqAll H' vs ds
  | [], _, h => by cases h; exact .nil
  | d :: ds, _, h => by
    cases h with
    | cons h1 h2 => exact .cons (dp_le e d _ h1) (dpa_le e ds _ h2)
end
theorem dpa_len : ∀ {vs : List V} {ds : List PyData}, DqAll H vs ds → vs.length = ds.length
  | _, _, .nil => rfl
  | _, _, .cons _ h => by rw [List.length_cons, List.length_cons, dpa_len h]
theorem dpa_get : ∀ {vs : List V} {ds : List PyData} {i : Nat} {d : PyData}, DqAll H vs ds → ds[i]? = some d → ∃ v, vs[i]? = some v ∧ Dq H v d
  | _, _, _, _, .nil, e => by simp at e
  | _, _, 0, _, .cons h _, e => by simp at e; subst e; exact ⟨_, rfl, h⟩
  | _, _, i + 1, d, .cons _ h, e => by
    obtain ⟨v, h1, h2⟩ := dpa_get (i := i) (d := d) h (by simpa using e)
    exact ⟨v, by simpa using h1, h2⟩
theorem dpa_get' : ∀ {vs : List V} {ds : List PyData} {i : Nat} {v : V}, DqAll H vs ds → vs[i]? = some v → ∃ d, ds[i]? = some d ∧ Dq H v d
  | _, _, _, _, .nil, e => by simp at e
  | _, _, 0, _, .cons h _, e => by simp at e; subst e; exact ⟨_, rfl, h⟩
  | _, _, i + 1, d, .cons _ h, e => by
    obtain ⟨v, h1, h2⟩ := dpa_get' (i := i) (v := d) h (by simpa using e)
    exact ⟨v, by simpa using h1, h2⟩
theorem dpa_append : ∀ {vs ws : List V} {ds es : List PyData}, DqAll H vs ds → DqAll H ws es → DqAll H (vs ++ ws) (ds ++ es)
  | _, _, _, _, .nil, h => h
  | _, _, _, _, .cons a b, h => .cons a (dpa_append b h)
theorem dpa_one {v : V} {d : PyData} (h : Dq H v d) : DqAll H [v] [d] := .cons h .nil
theorem dpa_set : ∀ {vs : List V} {ds : List PyData} {v : V} {d : PyData} (i : Nat), DqAll H vs ds → Dq H v d → DqAll H (vs.set i v) (ds.set i d)
  | _, _, _, _, _, .nil, _ => .nil
  | _, _, _, _, 0, .cons _ t, h => .cons h t
  | _, _, _, _, i + 1, .cons q t, h => .cons q (dpa_set i t h)
theorem dpa_take : ∀ {vs : List V} {ds : List PyData} (n : Nat), DqAll H vs ds → DqAll H (vs.take n) (ds.take n)
  | _, _, 0, _ => .nil
  | _, _, _ + 1, .nil => .nil
  | _, _, n + 1, .cons r t => .cons r (dpa_take n t)
theorem dpa_drop : ∀ {vs : List V} {ds : List PyData} (n : Nat), DqAll H vs ds → DqAll H (vs.drop n) (ds.drop n)
  | _, _, 0, r => r
  | _, _, _ + 1, .nil => .nil
  | _, _, n + 1, .cons _ t => dpa_drop n t
theorem dpa_rev : ∀ {vs : List V} {ds : List PyData}, DqAll H vs ds → DqAll H vs.reverse ds.reverse
  | _, _, .nil => .nil
  | _, _, .cons a b => by
    rw [List.reverse_cons, List.reverse_cons]
    exact dpa_append (dpa_rev b) (dpa_one a)
theorem dpa_ints : ∀ (ns : List Int), DqAll H (ns.map V.int) (ns.map PyData.int)
  | [] => .nil
  | n :: ns => .cons (.int n) (dpa_ints ns)
theorem dpa_ints_inv : ∀ {ns : List Int} {vs : List V}, DqAll H vs (ns.map PyData.int) → vs = ns.map V.int
  | [], _, h => by cases h; rfl
  | n :: ns, _, h => by
    cases h with
    | cons a b => cases a; rw [List.map_cons, ← dpa_ints_inv b]
theorem dpa_bools_inv : ∀ {ns : List Bool} {vs : List V}, DqAll H vs (ns.map PyData.bool) → vs = ns.map V.bl
  | [], _, h => by cases h; rfl
  | n :: ns, _, h => by
    cases h with
    | cons a b => cases a; rw [List.map_cons, ← dpa_bools_inv b]
end

section
variable {K : PySem.W.Frag} {H : Hp}
mutual
theorem Dq.dp : ∀ (d : PyData) (v : V), d.canLay0 = true → Dq H v d → Dp K H v d
  | .none, _, _, h => by cases h; exact .non
  | .bool b, _, _, h => by cases h; exact .bl b
  | .int i, _, _, h => by cases h; exact .int i
  | .str x, _, _, h => by cases h; exact .str x
  | .list ds, _, c, h => by
    cases h with
    | lst hs ha => exact .lst (.inl hs) (DqAll.dp ds _ (by simpa only [PyData.canLay0] using c) ha)
  | .tuple ds, _, c, h => by
    cases h with
    | tup hs ha => exact .tup (.inl hs) (DqAll.dp ds _ (by simpa only [PyData.canLay0] using c) ha)
  | .dict _, _, c, _ => by simp only [PyData.canLay0] at c; cases c
theorem DqAll.dp : ∀ (ds : List PyData) (vs : List V), PyData.canLayAll0 ds = true → DqAll H vs ds → DpAll K H vs ds
  | [], _, _, h => by cases h; exact .nil
  | d :: ds, _, c, h => by
    cases h with
    | cons h1 h2 =>
      simp only [PyData.canLayAll0, Bool.and_eq_true] at c
      exact .cons (Dq.dp d _ c.1 h1) (DqAll.dp ds _ c.2 h2)
end
end

/-! ## 2. Slots -/
/-- a slot: not known; a datum that nobody changes; a list that this slot alone holds (at a known address or not) -/
inductive Sl where
  | un
  | d (x : PyData)
  | o (m : Option Addr) (xs : List PyData)
abbrev DSt := List Sl
/-- the state: O the lists that slots hold alone (they may change), P others that no datum leans on (they don't change) -/
structure Rel (δ : DSt) (σ : L2.St) (O P : List Addr) (H : Hp) : Prop where
  len : σ.length = δ.length
  dat : ∀ (i : Nat) (x : PyData), δ[i]? = some (.d x) → ∃ v, σ[i]? = some (some v) ∧ Dq (frz (O ++ P) H) v x
  own : ∀ (i : Nat) (m : Option Addr) (xs : List PyData), δ[i]? = some (.o m xs) → ∃ a vs, σ[i]? = some (some (.ref a)) ∧ (∀ b, m = some b → b = a) ∧ a ∈ O ∧ H a = some (.lst vs) ∧ DqAll (frz (O ++ P) H) vs xs
  inj : ∀ (i j : Nat) (m n : Option Addr) (xs ys : List PyData) (a : Addr), δ[i]? = some (.o m xs) → δ[j]? = some (.o n ys) → σ[i]? = some (some (.ref a)) → σ[j]? = some (some (.ref a)) → i = j
  trk : ∀ a, a ∈ O ++ P → H a ≠ none
  dis : ∀ a ∈ O, a ∉ P
/-- a step: what is tracked outside O stays, and isn't of the new O -/
structure Stp (O : List Addr) (H : Hp) (O' : List Addr) (H' : Hp) : Prop where
  keep : ∀ a o, H a = some o → a ∉ O → H' a = some o ∧ a ∉ O'
  there : ∀ a, H a ≠ none → H' a ≠ none
theorem Stp.refl {O : List Addr} {H : Hp} : Stp O H O H := ⟨fun _ _ h n => ⟨h, n⟩, fun _ h => h⟩
theorem Stp.trans {O O1 O2 : List Addr} {H H1 H2 : Hp} (a : Stp O H O1 H1) (b : Stp O1 H1 O2 H2) : Stp O H O2 H2 :=
  ⟨fun x o h n => b.keep x o (a.keep x o h n).1 (a.keep x o h n).2, fun x h => b.there x (a.there x h)⟩
theorem Stp.le {O O' P : List Addr} {H H' : Hp} (s : Stp O H O' H') : Le (frz (O ++ P) H) (frz (O' ++ P) H') := fun a o h => by
  obtain ⟨n, h⟩ := frz_some.mp h
  simp only [List.mem_append, not_or] at n
  obtain ⟨h1, h2⟩ := s.keep a o h n.1
  exact frz_some.mpr ⟨by simp [h2, n.2], h1⟩
theorem Stp.dp {O O' P : List Addr} {H H' : Hp} {v : V} {x : PyData} (s : Stp O H O' H') (h : Dq (frz (O ++ P) H) v x) : Dq (frz (O' ++ P) H') v x := dp_le s.le x v h
theorem Stp.dpa {O O' P : List Addr} {H H' : Hp} {v : List V} {x : List PyData} (s : Stp O H O' H') (h : DqAll (frz (O ++ P) H) v x) : DqAll (frz (O' ++ P) H') v x := dpa_le s.le x v h

/-! ## 3. Results: a datum, or a list that is new and nobody's -/
inductive Rs where
  | d (x : PyData)
  | f (xs : List PyData)
  /-- a tuple of two lists, both new and nobody's -/
  | p (xs ys : List PyData)
@[reducible] def Rs.val : Rs → PyData
  | .d x => x
  | .f xs => .list xs
  | .p xs ys => .tuple [.list xs, .list ys]
/-- r stands at v -/
def Got (r : Rs) (v : V) (δ : DSt) (σ : L2.St) (O P : List Addr) (H : Hp) : Prop := match r with
  | .d x => Rel δ σ O P H ∧ Dq (frz (O ++ P) H) v x
  | .f xs => ∃ p vs O1, v = .ref p ∧ O = p :: O1 ∧ p ∉ O1 ∧ p ∉ P ∧ Rel δ σ O1 P H ∧ Rel δ σ O P H ∧ H p = some (.lst vs) ∧ DqAll (frz (O ++ P) H) vs xs
  | .p xs ys => ∃ t p q vs ws O1, v = .ref t ∧ O = p :: q :: O1 ∧ p ≠ q ∧ p ∉ O1 ∧ q ∉ O1 ∧ p ∉ P ∧ q ∉ P ∧ Rel δ σ O1 P H ∧ Rel δ σ O P H ∧ H p = some (.lst vs) ∧ H q = some (.lst ws) ∧ DqAll (frz (O ++ P) H) vs xs ∧ DqAll (frz (O ++ P) H) ws ys ∧ Rd (frz (O ++ P) H) t (.tup [.ref p, .ref q])
section
variable {δ : DSt} {σ : L2.St} {O O' P : List Addr} {H H' : Hp} {p : Addr}
theorem frz_drop : Le (frz ((p :: O) ++ P) H) (frz (O ++ P) H) := fun a o h => by
  obtain ⟨n, h⟩ := frz_some.mp h
  refine frz_some.mpr ⟨fun m => n ?_, h⟩
  simp only [List.cons_append, List.mem_cons]
  exact .inr m
theorem frz_new {Z : List Addr} {o : HO} (n : H p = none) : Le (frz Z H) (frz Z (upd H p o)) := fun a u h => by
  obtain ⟨m, h⟩ := frz_some.mp h
  exact frz_some.mpr ⟨m, by rw [upd_ne (ne_of_none h n)]; exact h⟩
theorem frz_new' {o : HO} (n : H p = none) : Le (frz (O ++ P) H) (frz ((p :: O) ++ P) (upd H p o)) := fun a u h => by
  obtain ⟨m, h⟩ := frz_some.mp h
  have hp : a ≠ p := ne_of_none h n
  exact frz_some.mpr ⟨by simp only [List.cons_append, List.mem_cons, not_or]; exact ⟨hp, m⟩, by rw [upd_ne hp]; exact h⟩
theorem Rel.fresh (R : Rel δ σ O P H) (n : H p = none) : p ∉ O ++ P := fun m => R.trk p m n
/-- a new object is laid: known to all -/
theorem Rel.newd {o : HO} (R : Rel δ σ O P H) (n : H p = none) : Rel δ σ O P (upd H p o) where
  len := R.len
  dat := fun i x e => let ⟨v, a, b⟩ := R.dat i x e; ⟨v, a, dp_le (frz_new n) _ _ b⟩
  own := fun i m xs e => by
    obtain ⟨a, vs, h1, h2, h3, h4, h5⟩ := R.own i m xs e
    exact ⟨a, vs, h1, h2, h3, by rw [upd_ne (ne_of_none h4 n)]; exact h4, dpa_le (frz_new n) _ _ h5⟩
  inj := R.inj
  trk := fun a m h => R.trk a m (by rwa [upd_ne (fun e => R.fresh n (by rw [← e]; exact m))] at h)
  dis := R.dis
/-- .. known to nobody -/
theorem Rel.newo {o : HO} (R : Rel δ σ O P H) (n : H p = none) : Rel δ σ (p :: O) P (upd H p o) where
  len := R.len
  dat := fun i x e => let ⟨v, a, b⟩ := R.dat i x e; ⟨v, a, dp_le (frz_new' n) _ _ b⟩
  own := fun i m xs e => by
    obtain ⟨a, vs, h1, h2, h3, h4, h5⟩ := R.own i m xs e
    exact ⟨a, vs, h1, h2, List.mem_cons_of_mem _ h3, by rw [upd_ne (ne_of_none h4 n)]; exact h4, dpa_le (frz_new' n) _ _ h5⟩
  inj := R.inj
  trk := fun a m h => by
    by_cases e : a = p
    · subst e; rw [upd_same] at h; cases h
    · rw [upd_ne e] at h
      simp only [List.cons_append, List.mem_cons] at m
      exact R.trk a (m.resolve_left e) h
  dis := fun a m h => by
    rcases List.mem_cons.mp m with e | m
    · subst e; exact R.fresh n (by simp [h])
    · exact R.dis a m h
theorem Stp.newd {o : HO} (n : H p = none) : Stp O H O (upd H p o) :=
  ⟨fun a u h m => ⟨by rw [upd_ne (ne_of_none h n)]; exact h, m⟩, fun a h => by
    by_cases e : a = p
    · subst e; rw [upd_same]; exact fun z => by cases z
    · rw [upd_ne e]; exact h⟩
theorem Stp.newo {o : HO} (n : H p = none) : Stp O H (p :: O) (upd H p o) :=
  ⟨fun a u h m => ⟨by rw [upd_ne (ne_of_none h n)]; exact h, by simp only [List.mem_cons, not_or]; exact ⟨ne_of_none h n, m⟩⟩, (Stp.newd (O := O) n).there⟩
/-- a new list -/
theorem Got.newl {xs : List PyData} {vs : List V} (R : Rel δ σ O P H) (n : H p = none) (h : DqAll (frz (O ++ P) H) vs xs) : Got (.f xs) (.ref p) δ σ (p :: O) P (upd H p (.lst vs)) := by
  have hf := R.fresh n
  simp only [List.mem_append, not_or] at hf
  exact ⟨p, vs, O, rfl, rfl, hf.1, hf.2, R.newd n, R.newo n, upd_same, dpa_le (frz_new' n) _ _ h⟩
/-- a new tuple -/
theorem Got.newt {xs : List PyData} {vs : List V} (R : Rel δ σ O P H) (n : H p = none) (h : DqAll (frz (O ++ P) H) vs xs) : Got (.d (.tuple xs)) (.ref p) δ σ O P (upd H p (.tup vs)) :=
  ⟨R.newd n, .tup (.inl (frz_some.mpr ⟨R.fresh n, upd_same⟩)) (dpa_le (frz_new n) _ _ h)⟩
theorem Got.rel {r : Rs} {v : V} (g : Got r v δ σ O P H) : Rel δ σ O P H := by
  cases r with
  | d x => exact g.1
  | f xs =>
    obtain ⟨p, vs, O1, rfl, rfl, n1, n2, R1, R, hp, h⟩ := g
    exact R
  | p xs ys =>
    obtain ⟨t, p, q, vs, ws, O1, rfl, rfl, pq, n1, n2, m1, m2, R1, R, _⟩ := g
    exact R
/-- a new list is a datum too -/
theorem Got.share {r : Rs} {v : V} (g : Got r v δ σ O P H) (s : Stp O' H' O H) : ∃ O1, Rel δ σ O1 P H ∧ Dq (frz (O1 ++ P) H) v r.val ∧ Stp O' H' O1 H := by
  cases r with
  | d x => exact ⟨O, g.1, g.2, s⟩
  | f xs =>
    obtain ⟨p, vs, O1, rfl, rfl, n1, n2, R1, R, hp, h⟩ := g
    refine ⟨O1, R1, .lst (.inl (frz_some.mpr ⟨by simp [n1, n2], hp⟩)) (dpa_le frz_drop _ _ h), ⟨fun a o h n => ?_, s.there⟩⟩
    obtain ⟨a1, a2⟩ := s.keep a o h n
    simp only [List.mem_cons, not_or] at a2
    exact ⟨a1, a2.2⟩
  | p xs ys =>
    obtain ⟨t, p, q, vs, ws, O1, rfl, rfl, pq, n1, n2, m1, m2, R1, R, hp, hq, h1, h2, ht⟩ := g
    have le : Le (frz ((p :: q :: O1) ++ P) H) (frz (O1 ++ P) H) := fun a o h => by
      obtain ⟨n, h⟩ := frz_some.mp h
      refine frz_some.mpr ⟨fun m => n ?_, h⟩
      simp only [List.cons_append, List.mem_cons]
      exact .inr (.inr m)
    refine ⟨O1, R1, .tup (rd_le le ht) (.cons (.lst (.inl (frz_some.mpr ⟨by simp [n1, m1], hp⟩)) (dpa_le le _ _ h1)) (.cons (.lst (.inl (frz_some.mpr ⟨by simp [n2, m2], hq⟩)) (dpa_le le _ _ h2)) .nil)), ⟨fun a o h n => ?_, s.there⟩⟩
    obtain ⟨a1, a2⟩ := s.keep a o h n
    simp only [List.mem_cons, not_or] at a2
    exact ⟨a1, a2.2.2⟩
/-- a slot is read: from now on its list is a datum -/
theorem Rel.read_o {i : Nat} {m : Option Addr} {xs : List PyData} (R : Rel δ σ O P H) (e : δ[i]? = some (.o m xs)) :
    ∃ v O1, σ[i]? = some (some v) ∧ Rel (δ.set i (.d (.list xs))) σ O1 P H ∧ Dq (frz (O1 ++ P) H) v (.list xs) ∧ Stp O H O1 H := by
  obtain ⟨a, vs, h1, h2, h3, h4, h5⟩ := R.own i m xs e
  have hi : i < δ.length := (List.getElem?_eq_some_iff.mp e).1
  have hsub : ∀ x, x ∈ O.filter (fun x => decide (x ≠ a)) ↔ x ∈ O ∧ x ≠ a := fun x => by simp
  have hle : Le (frz (O ++ P) H) (frz (O.filter (fun x => decide (x ≠ a)) ++ P) H) := fun b u h => by
    obtain ⟨m, h⟩ := frz_some.mp h
    refine frz_some.mpr ⟨fun z => m ?_, h⟩
    rcases List.mem_append.mp z with z | z
    · exact List.mem_append_left _ ((hsub b).mp z).1
    · exact List.mem_append_right _ z
  have hv : Dq (frz (O.filter (fun x => decide (x ≠ a)) ++ P) H) (.ref a) (.list xs) := by
    refine .lst (.inl (frz_some.mpr ⟨fun z => ?_, h4⟩)) (dpa_le hle _ _ h5)
    rcases List.mem_append.mp z with z | z
    · exact ((hsub a).mp z).2 rfl
    · exact R.dis a h3 z
  refine ⟨.ref a, O.filter (fun x => decide (x ≠ a)), h1, ⟨by rw [List.length_set]; exact R.len, fun j x ej => ?_, fun j n ys ej => ?_, fun j k n n' ys zs b ej ek => ?_, fun b mb => R.trk b ?_, fun b mb => R.dis b ((hsub b).mp mb).1⟩, hv, ⟨fun b u h n => ⟨h, fun z => n ((hsub b).mp z).1⟩, fun _ h => h⟩⟩
  · by_cases hj : j = i
    · subst hj
      rw [List.getElem?_set_self hi] at ej
      cases ej
      exact ⟨_, h1, hv⟩
    · rw [List.getElem?_set_ne (Ne.symm hj)] at ej
      obtain ⟨v, q1, q2⟩ := R.dat j x ej
      exact ⟨v, q1, dp_le hle _ _ q2⟩
  · by_cases hj : j = i
    · subst hj
      rw [List.getElem?_set_self hi] at ej
      cases ej
    · rw [List.getElem?_set_ne (Ne.symm hj)] at ej
      obtain ⟨b, ws, q1, q2, q3, q4, q5⟩ := R.own j n ys ej
      refine ⟨b, ws, q1, q2, (hsub b).mpr ⟨q3, fun z => ?_⟩, q4, dpa_le hle _ _ q5⟩
      subst z
      exact hj (R.inj j i n m ys xs b ej e q1 h1)
  · by_cases hj : j = i
    · subst hj; rw [List.getElem?_set_self hi] at ej; cases ej
    · by_cases hk : k = i
      · subst hk; rw [List.getElem?_set_self hi] at ek; cases ek
      · rw [List.getElem?_set_ne (Ne.symm hj)] at ej
        rw [List.getElem?_set_ne (Ne.symm hk)] at ek
        exact R.inj j k n n' ys zs b ej ek
  · rcases List.mem_append.mp mb with z | z
    · exact List.mem_append_left _ ((hsub b).mp z).1
    · exact List.mem_append_right _ z
/-- a slot is stored -/
@[reducible] def Rs.sl : Rs → Sl
  | .d x => .d x
  | .f xs => .o none xs
  | .p _ _ => .un
theorem Rel.set_pun {i : Nat} {v : V} (R : Rel δ σ O P H) (hi : i < δ.length) : Rel (δ.set i .un) (σ.set i (some v)) O P H := by
  have no : ∀ (j : Nat) (y : Sl), (δ.set i .un)[j]? = some y → y ≠ .un → j ≠ i ∧ δ[j]? = some y := fun j y ej hy => by
    by_cases hj : j = i
    · subst hj; rw [List.getElem?_set_self hi] at ej; cases ej; exact (hy rfl).elim
    · rw [List.getElem?_set_ne (Ne.symm hj)] at ej; exact ⟨hj, ej⟩
  refine ⟨by rw [List.length_set, List.length_set]; exact R.len, fun j y ej => ?_, fun j n ys ej => ?_, fun j k n n' ys zs b ej ek sj sk => ?_, R.trk, R.dis⟩
  · obtain ⟨hj, ej⟩ := no j _ ej (by intro z; cases z)
    rw [List.getElem?_set_ne (Ne.symm hj)]
    exact R.dat j y ej
  · obtain ⟨hj, ej⟩ := no j _ ej (by intro z; cases z)
    rw [List.getElem?_set_ne (Ne.symm hj)]
    exact R.own j n ys ej
  · obtain ⟨hj, ej⟩ := no j _ ej (by intro z; cases z)
    obtain ⟨hk, ek⟩ := no k _ ek (by intro z; cases z)
    rw [List.getElem?_set_ne (Ne.symm hj)] at sj
    rw [List.getElem?_set_ne (Ne.symm hk)] at sk
    exact R.inj j k n n' ys zs b ej ek sj sk
theorem Rel.set_d {i : Nat} {x : PyData} {v : V} (R : Rel δ σ O P H) (hv : Dq (frz (O ++ P) H) v x) (hi : i < δ.length) : Rel (δ.set i (.d x)) (σ.set i (some v)) O P H := by
  have hs : i < σ.length := by rw [R.len]; exact hi
  have no : ∀ (j : Nat) (n : Option Addr) (ys : List PyData), (δ.set i (.d x))[j]? = some (.o n ys) → j ≠ i ∧ δ[j]? = some (.o n ys) := fun j n ys ej => by
    by_cases hj : j = i
    · subst hj; rw [List.getElem?_set_self hi] at ej; cases ej
    · rw [List.getElem?_set_ne (Ne.symm hj)] at ej; exact ⟨hj, ej⟩
  refine ⟨by rw [List.length_set, List.length_set]; exact R.len, fun j y ej => ?_, fun j n ys ej => ?_, fun j k n n' ys zs b ej ek sj sk => ?_, R.trk, R.dis⟩
  · by_cases hj : j = i
    · subst hj
      rw [List.getElem?_set_self hi] at ej
      cases ej; exact ⟨v, List.getElem?_set_self hs, hv⟩
    · rw [List.getElem?_set_ne (Ne.symm hj)] at ej
      rw [List.getElem?_set_ne (Ne.symm hj)]
      exact R.dat j y ej
  · obtain ⟨hj, ej⟩ := no j n ys ej
    rw [List.getElem?_set_ne (Ne.symm hj)]
    exact R.own j n ys ej
  · obtain ⟨hj, ej⟩ := no j n ys ej
    obtain ⟨hk, ek⟩ := no k n' zs ek
    rw [List.getElem?_set_ne (Ne.symm hj)] at sj
    rw [List.getElem?_set_ne (Ne.symm hk)] at sk
    exact R.inj j k n n' ys zs b ej ek sj sk
theorem Rel.set_f {i : Nat} {xs : List PyData} {vs : List V} {O1 : List Addr} (n1 : p ∉ O1) (R1 : Rel δ σ O1 P H) (R : Rel δ σ (p :: O1) P H) (hp : H p = some (.lst vs)) (h : DqAll (frz ((p :: O1) ++ P) H) vs xs) (hi : i < δ.length) :
    Rel (δ.set i (.o none xs)) (σ.set i (some (.ref p))) (p :: O1) P H := by
  have hs : i < σ.length := by rw [R.len]; exact hi
  have oth : ∀ (j : Nat) (n : Option Addr) (ys : List PyData), j ≠ i → δ[j]? = some (.o n ys) → σ[j]? ≠ some (some (.ref p)) := fun j n ys hj ej e => by
    obtain ⟨b, _, q1, _, q3, _⟩ := R1.own j n ys ej
    rw [e] at q1; cases q1; exact n1 q3
  refine ⟨by rw [List.length_set, List.length_set]; exact R.len, fun j y ej => ?_, fun j n ys ej => ?_, fun j k n n' ys zs b ej ek sj sk => ?_, R.trk, R.dis⟩
  · have hj : j ≠ i := fun z => by subst z; rw [List.getElem?_set_self hi] at ej; cases ej
    rw [List.getElem?_set_ne (Ne.symm hj)] at ej
    rw [List.getElem?_set_ne (Ne.symm hj)]
    exact R.dat j y ej
  · by_cases hj : j = i
    · subst hj
      rw [List.getElem?_set_self hi] at ej
      cases ej
      exact ⟨p, vs, List.getElem?_set_self hs, fun b e => (by cases e), List.mem_cons_self, hp, h⟩
    · rw [List.getElem?_set_ne (Ne.symm hj)] at ej
      rw [List.getElem?_set_ne (Ne.symm hj)]
      exact R.own j n ys ej
  · by_cases hj : j = i
    · by_cases hk : k = i
      · rw [hj, hk]
      · subst hj
        rw [List.getElem?_set_ne (Ne.symm hk)] at ek sk
        rw [List.getElem?_set_self hs] at sj
        cases sj
        exact (oth k n' zs hk ek sk).elim
    · by_cases hk : k = i
      · subst hk
        rw [List.getElem?_set_ne (Ne.symm hj)] at ej sj
        rw [List.getElem?_set_self hs] at sk
        cases sk
        exact (oth j n ys hj ej sj).elim
      · rw [List.getElem?_set_ne (Ne.symm hj)] at ej sj
        rw [List.getElem?_set_ne (Ne.symm hk)] at ek sk
        exact R.inj j k n n' ys zs b ej ek sj sk
theorem Rel.set {i : Nat} {r : Rs} {v : V} (g : Got r v δ σ O P H) (hi : i < δ.length) : Rel (δ.set i r.sl) (σ.set i (some v)) O P H := by
  cases r with
  | d x => exact g.1.set_d g.2 hi
  | f xs =>
    obtain ⟨p, vs, O1, rfl, rfl, n1, n2, R1, R, hp, h⟩ := g
    exact Rel.set_f n1 R1 R hp h hi
  | p xs ys => exact Rel.set_pun (Got.rel (r := .p xs ys) (v := v) g) hi
/-- the list that a slot holds alone is changed -/
theorem Rel.chg {i : Nat} {m : Option Addr} {xs ys : List PyData} {a : Addr} {ws : List V} (R : Rel δ σ O P H) (e : δ[i]? = some (.o m xs)) (ea : σ[i]? = some (some (.ref a))) (h : DqAll (frz (O ++ P) H) ws ys) :
    Rel (δ.set i (.o m ys)) σ O P (upd H a (.lst ws)) ∧ Stp O H O (upd H a (.lst ws)) := by
  obtain ⟨a', vs, h1, h2, h3, h4, h5⟩ := R.own i m xs e
  rw [ea] at h1; cases h1
  have hi : i < δ.length := (List.getElem?_eq_some_iff.mp e).1
  have hle : Le (frz (O ++ P) H) (frz (O ++ P) (upd H a (.lst ws))) := fun b u h => by
    obtain ⟨n, h⟩ := frz_some.mp h
    exact frz_some.mpr ⟨n, by rw [upd_ne (fun z => n (by rw [z]; exact List.mem_append_left _ h3))]; exact h⟩
  have hth : ∀ b, H b ≠ none → (upd H a (.lst ws)) b ≠ none := fun b h => by
    by_cases z : b = a
    · subst z; rw [upd_same]; exact fun z => by cases z
    · rw [upd_ne z]; exact h
  refine ⟨⟨by rw [List.length_set]; exact R.len, fun j x ej => ?_, fun j n zs ej => ?_, fun j k n n' zs zs' b ej ek sj sk => ?_, fun b mb => hth b (R.trk b mb), R.dis⟩, ⟨fun b u h n => ⟨by rw [upd_ne (fun z => n (by rw [z]; exact h3))]; exact h, n⟩, hth⟩⟩
  · have hj : j ≠ i := fun z => by subst z; rw [List.getElem?_set_self hi] at ej; cases ej
    rw [List.getElem?_set_ne (Ne.symm hj)] at ej
    obtain ⟨v, q1, q2⟩ := R.dat j x ej
    exact ⟨v, q1, dp_le hle _ _ q2⟩
  · by_cases hj : j = i
    · subst hj
      rw [List.getElem?_set_self hi] at ej
      cases ej
      exact ⟨a, ws, ea, h2, h3, upd_same, dpa_le hle _ _ h⟩
    · rw [List.getElem?_set_ne (Ne.symm hj)] at ej
      obtain ⟨b, us, q1, q2, q3, q4, q5⟩ := R.own j n zs ej
      refine ⟨b, us, q1, q2, q3, ?_, dpa_le hle _ _ q5⟩
      rw [upd_ne (fun z => hj (R.inj j i n m zs xs b ej e q1 (by rw [z]; exact ea)))]
      exact q4
  · have conv : ∀ (j : Nat) (n : Option Addr) (zs : List PyData), (δ.set i (.o m ys))[j]? = some (.o n zs) → ∃ (n' : Option Addr) (zs' : List PyData), δ[j]? = some (.o n' zs') := fun j n zs ej => by
      by_cases hj : j = i
      · subst hj; exact ⟨_, _, e⟩
      · rw [List.getElem?_set_ne (Ne.symm hj)] at ej; exact ⟨_, _, ej⟩
    obtain ⟨_, _, e1⟩ := conv j n zs ej
    obtain ⟨_, _, e2⟩ := conv k n' zs' ek
    exact R.inj j k _ _ _ _ b e1 e2 sj sk
end
end DL

namespace DL
open PySem L2

/-! ## 4. The judgements over data -/
/-- what is wished of an error: its class, its fields, the slots -/
abbrev RX := Addr → List (Str × PyData) → DSt → Prop
abbrev TD := DSt → RX → (Rs → DSt → Prop) → Prop
abbrev TTd := DSt → RX → (Bool → DSt → Prop) → Prop
abbrev XS := L2.St → XK
def FldsOk (H : Hp) (fs : List (Str × V)) (xs : List (Str × PyData)) : Prop := Paired (fun (p : Str × V) (q : Str × PyData) => p.1 = q.1 ∧ Dq H p.2 q.2) fs xs
def ExcAt (Z : List Addr) (H : Hp) (dd : Option Addr) (xs : List (Str × PyData)) : Prop := (dd = none ∧ xs = []) ∨ ∃ d fs, dd = some d ∧ H d = some (.xd fs) ∧ FldsOk (frz Z H) fs xs
def ExW (E : XS) (O P : List Addr) (H : Hp) (R : RX) : Prop := ∀ (C : Addr) (dd : Option Addr) (xs : List (Str × PyData)) (δ' : DSt) (σ' : L2.St) (O' : List Addr) (H' : Hp), Rel δ' σ' O' P H' → Stp O H O' H' → ExcAt (O' ++ P) H' dd xs → R C xs δ' → E σ' (.ref C) dd H'
section
variable {X : Cx} {E : XS} {O O1 O' P : List Addr} {H H1 H' : Hp} {R : RX} {δ δ1 : DSt} {σ : L2.St}
theorem ExW.step (h : ExW E O P H R) (s : Stp O H O1 H1) : ExW E O1 P H1 R := fun C dd xs δ' σ' O' H' R' s' e r => h C dd xs δ' σ' O' H' R' (s.trans s') e r
/-- R nothing: no wish -/
theorem ExW.no : ExW E O P H (fun _ _ _ => False) := fun _ _ _ _ _ _ _ _ _ _ r => r.elim
end
theorem Got.dat {δ : DSt} {σ : L2.St} {O P : List Addr} {H : Hp} {v : V} {x : PyData} (a : Rel δ σ O P H) (b : Dq (frz (O ++ P) H) v x) : Got (.d x) v δ σ O P H := ⟨a, b⟩
/-- an expression over data -/
structure DE (X : Cx) (E : XS) (e : Expr) (t : TD) : Prop where
  ex : ∃ te, PE X e te ∧ ∀ (δ : DSt) (σ : L2.St) (O P : List Addr) (H : Hp) (R : RX) (Q' : Rs → DSt → Prop) (Q : VK), Rel δ σ O P H → ExW E O P H R → t δ R Q' →
    (∀ r v δ' O' H', Got r v δ' σ O' P H' → Stp O H O' H' → Q' r δ' → Q v H') → te σ H Q
/-- a test over data -/
structure DT (X : Cx) (E : XS) (e : Expr) (t : TTd) : Prop where
  ex : ∃ te, PT X e te ∧ ∀ (δ : DSt) (σ : L2.St) (O P : List Addr) (H : Hp) (R : RX) (Q' : Bool → DSt → Prop) (Q : Bool → Hp → Prop), Rel δ σ O P H → ExW E O P H R → t δ R Q' →
    (∀ b δ' O' H', Rel δ' σ O' P H' → Stp O H O' H' → Q' b δ' → Q b H') → te σ H Q
structure DW (X : Cx) (E : XS) (e : Expr) (t : TTd) : Prop where
  ex : ∃ te, PW X e te ∧ ∀ (δ : DSt) (σ : L2.St) (O P : List Addr) (H : Hp) (R : RX) (Q' : Bool → DSt → Prop) (Q : Bool → Hp → Prop), Rel δ σ O P H → ExW E O P H R → t δ R Q' →
    (∀ b δ' O' H', Rel δ' σ O' P H' → Stp O H O' H' → Q' b δ' → Q b H') → te σ H Q
/-- an operand: a datum, or a name's slot, looked at when all operands have come -/
inductive Opd where
  | x (x : PyData)
  | v (i : Nat)
def gs : DSt → Nat → Sl
  | [], _ => .un
  | x :: _, 0 => x
  | _ :: r, n + 1 => gs r n
def ss : DSt → Nat → Sl → DSt
  | [], _, _ => []
  | _ :: r, 0, y => y :: r
  | x :: r, n + 1, y => x :: ss r n y
theorem ss_eq : ∀ (δ : DSt) (i : Nat) (y : Sl), ss δ i y = δ.set i y
  | [], _, _ => rfl
  | _ :: _, 0, _ => rfl
  | x :: r, n + 1, y => by rw [ss, ss_eq r n y]; rfl
theorem gs_some : ∀ (δ : DSt) (i : Nat) (y : Sl), gs δ i = y → y ≠ .un → δ[i]? = some y
  | [], _, y, h, n => (n h.symm).elim
  | x :: _, 0, y, h, n => by simpa [gs] using h
  | _ :: r, i + 1, y, h, n => by simpa using gs_some r i y h n
theorem gs_d {δ : DSt} {i : Nat} {x : PyData} (h : gs δ i = .d x) : δ[i]? = some (.d x) := gs_some δ i _ h (fun z => nomatch z)
theorem gs_o {δ : DSt} {i : Nat} {m : Option Addr} {x : List PyData} (h : gs δ i = .o m x) : δ[i]? = some (.o m x) := gs_some δ i _ h (fun z => nomatch z)
@[reducible] def Sl.val : Sl → Option PyData
  | .un => none
  | .d x => some x
  | .o _ xs => some (.list xs)
@[reducible] def Opd.res (o : Opd) (δ : DSt) : Option PyData := match o with
  | .x y => some y
  | .v i => (gs δ i).val
def OpdAt (o : Opd) (v : V) (σ : L2.St) (Z : List Addr) (H : Hp) : Prop := match o with
  | .x y => Dq (frz Z H) v y
  | .v i => σ[i]? = some (some v)
theorem OpdAt.step {o : Opd} {v : V} {σ : L2.St} {O O' P : List Addr} {H H' : Hp} (h : OpdAt o v σ (O ++ P) H) (s : Stp O H O' H') : OpdAt o v σ (O' ++ P) H' := by
  cases o with
  | x x => exact s.dp h
  | v i => exact h
abbrev TO' := DSt → RX → (Opd → DSt → Prop) → Prop
structure DA (X : Cx) (E : XS) (e : Expr) (t : TO') : Prop where
  ex : ∃ te, PE X e te ∧ ∀ (δ : DSt) (σ : L2.St) (O P : List Addr) (H : Hp) (R : RX) (Q' : Opd → DSt → Prop) (Q : VK), Rel δ σ O P H → ExW E O P H R → t δ R Q' →
    (∀ o v δ' O' H', Rel δ' σ O' P H' → OpdAt o v σ (O' ++ P) H' → Stp O H O' H' → Q' o δ' → Q v H') → te σ H Q
/-- what an operation sees: a datum, or a list that a slot holds alone -/
def Lq (Z : List Addr) (H : Hp) (v : V) (x : PyData) : Prop := Dq (frz Z H) v x ∨ ∃ a vs xs, v = .ref a ∧ x = .list xs ∧ H a = some (.lst vs) ∧ DqAll (frz Z H) vs xs
theorem Lq.full {Z : List Addr} {H : Hp} {v : V} {x : PyData} (h : Lq Z H v x) : Dq H v x := by
  rcases h with h | ⟨a, vs, xs, rfl, rfl, h1, h2⟩
  · exact dp_le frz_le _ _ h
  · exact .lst (.inl h1) (dpa_le frz_le _ _ h2)
theorem Lq.lst {Z : List Addr} {H : Hp} {v : V} {xs : List PyData} (h : Lq Z H v (.list xs)) : ∃ a vs, v = .ref a ∧ Rd H a (.lst vs) ∧ DqAll (frz Z H) vs xs := by
  rcases h with h | ⟨a, vs, xs, rfl, e, h1, h2⟩
  · cases h with
    | lst h1 h2 => exact ⟨_, _, rfl, rd_le frz_le h1, h2⟩
  · cases e; exact ⟨a, vs, rfl, .inl h1, h2⟩
theorem Lq.tup {Z : List Addr} {H : Hp} {v : V} {xs : List PyData} (h : Lq Z H v (.tuple xs)) : ∃ a vs, v = .ref a ∧ Rd H a (.tup vs) ∧ DqAll (frz Z H) vs xs ∧ Dq (frz Z H) v (.tuple xs) := by
  rcases h with h | ⟨a, vs, xs, rfl, e, h1, h2⟩
  · have h' := h
    cases h with
    | tup h1 h2 => exact ⟨_, _, rfl, rd_le frz_le h1, h2, h'⟩
  · cases e
theorem Lq.int {Z : List Addr} {H : Hp} {v : V} {i : Int} (h : Lq Z H v (.int i)) : v = .int i := by cases h.full; rfl
theorem Lq.bl {Z : List Addr} {H : Hp} {v : V} {i : Bool} (h : Lq Z H v (.bool i)) : v = .bl i := by cases h.full; rfl
theorem Lq.non {Z : List Addr} {H : Hp} {v : V} (h : Lq Z H v .none) : v = .non := by cases h.full; rfl
theorem Lq.str {Z : List Addr} {H : Hp} {v : V} {i : Str} (h : Lq Z H v (.str i)) : v = .str i := by cases h.full; rfl
theorem OpdAt.lq {o : Opd} {v : V} {x : PyData} {δ : DSt} {σ : L2.St} {O P : List Addr} {H : Hp} (R : Rel δ σ O P H) (h : OpdAt o v σ (O ++ P) H) (e : o.res δ = some x) : Lq (O ++ P) H v x := by
  cases o with
  | x y => cases e; exact .inl h
  | v i =>
    have e' : (gs δ i).val = some x := by simpa only [Opd.res] using e
    cases g : gs δ i with
    | un => rw [g] at e'; cases e'
    | d y =>
      rw [g] at e'; cases e'
      obtain ⟨w, h1, h2⟩ := R.dat i _ (gs_d g)
      have h' : σ[i]? = some (some v) := h
      rw [h'] at h1; cases h1; exact .inl h2
    | o m ys =>
      rw [g] at e'; cases e'
      obtain ⟨a, vs, h1, _, _, h4, h5⟩ := R.own i _ _ (gs_o g)
      have h' : σ[i]? = some (some v) := h
      rw [h'] at h1; cases h1; exact .inr ⟨a, vs, ys, rfl, rfl, h4, h5⟩

section
variable {X : Cx} {E : XS} {a b c e : Expr} {pos : Pos} {ta tb tc te : TD} {oa ob oc : TO'}
/-! ### names, constants -/
def dVar (i : Nat) : TD := fun δ _ Q => match gs δ i with
  | .un => False
  | .d x => Q (.d x) δ
  | .o _ xs => Q (.d (.list xs)) (ss δ i (.d (.list xs)))
theorem de_var (i : Nat) {x : Str} (hN : X.N[i]? = some x := by rfl) (hv : Vis X.env.scope x := by first | exact Or.inl rfl | exact Or.inr (Or.inl rfl) | exact Or.inr (Or.inr rfl)) (hd : (x == ("__debug__" : Str)) = false := by decide)
    (hcd : (x == ("__classdict__" : Str)) = false := by decide) : DE X E (.Name x pos) (dVar i) := by
  refine ⟨_, pe_var hN hv hd hcd, fun δ σ O P H R Q' Q I _ h k => ?_⟩
  unfold dVar at h
  split at h
  · exact h.elim
  · rename_i x' g
    obtain ⟨v, h1, h2⟩ := I.dat i _ (gs_d g)
    exact ⟨v, h1, k _ v δ O H (.dat I h2) .refl h⟩
  · rename_i m xs g
    obtain ⟨v, O1, h1, h2, h3, h4⟩ := I.read_o (gs_o g)
    rw [ss_eq] at h
    exact ⟨v, h1, k _ v _ O1 H (.dat h2 h3) h4 h⟩
def dC (x : PyData) : TD := fun δ _ Q => Q (.d x) δ
theorem de_c {x : PyData} {v : V} (p : PE X e (tC v)) (hv : ∀ H, Dq H v x) : DE X E e (dC x) := ⟨_, p, fun δ σ O P H R Q' Q I _ h k => k _ v δ O H (.dat I (hv _)) .refl h⟩
theorem de_int {i : Int} {j} : DE X E (.Constant (.int i) j pos) (dC (.int i)) := de_c pe_int fun _ => .int i
theorem de_bl {i : Bool} {j} : DE X E (.Constant (.bool i) j pos) (dC (.bool i)) := de_c pe_bl fun _ => .bl i
theorem de_non {j} : DE X E (.Constant .none j pos) (dC .none) := de_c pe_non fun _ => .non
theorem de_str {x : Str} {j} : DE X E (.Constant (.str x) j pos) (dC (.str x)) := de_c pe_str fun _ => .str x
/-- a module's int constant -/
theorem de_gint {x : Str} {i : Int} {t : Tok} (hg : Gl X x) (hm : X.mg x = some (.int i t)) (hd : (x == ("__debug__" : Str)) = false := by decide) : DE X E (.Name x pos) (dC (.int i)) := de_c (pe_glob hg hm (v := .int i) ⟨t, rfl⟩ hd) fun _ => .int i

/-! ### operands -/
def aVar (i : Nat) : TO' := fun δ _ Q => (gs δ i).val ≠ none ∧ Q (.v i) δ
def aOf (t : TD) : TO' := fun δ R Q => t δ R fun r δ' => Q (.x r.val) δ'
theorem da_of (h : DE X E e te) : DA X E e (aOf te) := by
  obtain ⟨t, p, q⟩ := h.ex
  refine ⟨t, p, fun δ σ O P H R Q' Q I w h k => q δ σ O P H R _ Q I w h fun r v δ' O' H' g s h' => ?_⟩
  obtain ⟨O1, R1, d, s1⟩ := g.share s
  exact k (.x r.val) v δ' O1 H' R1 d s1 h'
/-- a name that holds something, seen late -/
theorem da_var (i : Nat) {x : Str} (hN : X.N[i]? = some x := by rfl) (hv : Vis X.env.scope x := by first | exact Or.inl rfl | exact Or.inr (Or.inl rfl) | exact Or.inr (Or.inr rfl)) (hd : (x == ("__debug__" : Str)) = false := by decide)
    (hcd : (x == ("__classdict__" : Str)) = false := by decide) : DA X E (.Name x pos) (aVar i) := by
  refine ⟨_, pe_var hN hv hd hcd, fun δ σ O P H R Q' Q I _ h k => ?_⟩
  obtain ⟨n, h⟩ := h
  cases g : gs δ i with
  | un => rw [g] at n; exact (n rfl).elim
  | d x' =>
    obtain ⟨v, h1, h2⟩ := I.dat i _ (gs_d g)
    exact ⟨v, h1, k (.v i) v δ O H I h1 .refl h⟩
  | o m xs =>
    obtain ⟨a, vs, h1, _⟩ := I.own i _ _ (gs_o g)
    exact ⟨_, h1, k (.v i) _ δ O H I h1 .refl h⟩

/-! ### operations on data -/
abbrev K2 := PyData → PyData → (Rs → Prop) → Prop
abbrev K1 := PyData → (Rs → Prop) → Prop
def OpD (r : R2) (f : K2) : Prop := ∀ (x y : PyData) (u v : V) (δ : DSt) (σ : L2.St) (O P : List Addr) (H : Hp) (Q' : Rs → Prop) (Q : VK), Rel δ σ O P H → Lq (O ++ P) H u x → Lq (O ++ P) H v y → f x y Q' →
  (∀ z w O' H', Got z w δ σ O' P H' → Stp O H O' H' → Q' z → Q w H') → r u v H Q
def UnD (r : V → Hp → VK → Prop) (f : K1) : Prop := ∀ (x : PyData) (u : V) (δ : DSt) (σ : L2.St) (O P : List Addr) (H : Hp) (Q' : Rs → Prop) (Q : VK), Rel δ σ O P H → Lq (O ++ P) H u x → f x Q' →
  (∀ z w O' H', Got z w δ σ O' P H' → Stp O H O' H' → Q' z → Q w H') → r u H Q
def dOp (f : K2) (ta tb : TO') : TD := fun δ R Q => ta δ R fun a δ1 => tb δ1 R fun b δ2 => match a.res δ2, b.res δ2 with
  | some x, some y => f x y fun z => Q z δ2
  | _, _ => False
def dUn (f : K1) (ta : TO') : TD := fun δ R Q => ta δ R fun a δ1 => match a.res δ1 with
  | some x => f x fun z => Q z δ1
  | _ => False
theorem op_core {r : R2} {f : K2} (hd : OpD r f) (ha : DA X E a oa) (hb : DA X E b ob) : ∃ ta tb, PE X a ta ∧ PE X b tb ∧ ∀ (δ : DSt) (σ : L2.St) (O P : List Addr) (H : Hp) (R : RX) (Q' : Rs → DSt → Prop) (Q : VK), Rel δ σ O P H → ExW E O P H R → dOp f oa ob δ R Q' →
    (∀ r v δ' O' H', Got r v δ' σ O' P H' → Stp O H O' H' → Q' r δ' → Q v H') → tOp r ta tb σ H Q := by
  obtain ⟨ta, pa, qa⟩ := ha.ex
  obtain ⟨tb, pb, qb⟩ := hb.ex
  refine ⟨ta, tb, pa, pb, fun δ σ O P H R Q' Q I w h k => ?_⟩
  refine qa δ σ O P H R _ _ I w h fun o1 v1 δ1 O1 H1 I1 at1 s1 h1 => ?_
  refine qb δ1 σ O1 P H1 R _ _ I1 (w.step s1) h1 fun o2 v2 δ2 O2 H2 I2 at2 s2 h2 => ?_
  have at1' := at1.step s2
  split at h2
  · rename_i x y e1 e2
    exact hd x y v1 v2 δ2 σ O2 P H2 _ Q I2 (at1'.lq I2 e1) (at2.lq I2 e2) h2 fun z w' O' H' g s q => k z w' δ2 O' H' g ((s1.trans s2).trans s) q
  · exact h2.elim
theorem de_op {op : Operator} {r : R2} {f : K2} (ho : OpR X (binaryOp op) r) (hd : OpD r f) (ha : DA X E a oa) (hb : DA X E b ob) : DE X E (.BinOp a op b pos) (dOp f oa ob) := by
  obtain ⟨ta, tb, pa, pb, q⟩ := op_core hd ha hb
  exact ⟨_, pe_op ho pa pb, q⟩
theorem de_cmp {op : CmpOp} {r : R2} {f : K2} (ho : OpR X (compareOp op) r) (hd : OpD r f) (ha : DA X E a oa) (hb : DA X E b ob) (hm : behindInMarks op b = false := by first | exact nomark _ | rfl) : DE X E (.Compare a [op] [b] pos) (dOp f oa ob) := by
  obtain ⟨ta, tb, pa, pb, q⟩ := op_core hd ha hb
  exact ⟨_, pe_cmpR ho pa pb hm, q⟩
theorem de_ix {r : R2} {f : K2} (ho : IxR X r) (hd : OpD r f) (ha : DA X E a oa) (hb : DA X E b ob) (hs : PlainIx b := by exact fun _ _ => rfl) : DE X E (.Subscript a b pos) (dOp f oa ob) := by
  obtain ⟨ta, tb, pa, pb, q⟩ := op_core hd ha hb
  exact ⟨_, pe_ix ho pa pb hs, q⟩
theorem de_un {op : UnaryOp} {r : V → Hp → VK → Prop} {f : K1} (ho : UnR X (unaryOp op) r) (hd : UnD r f) (ha : DA X E a oa) : DE X E (.UnaryOp op a pos) (dUn f oa) := by
  obtain ⟨ta, pa, qa⟩ := ha.ex
  refine ⟨_, pe_un ho pa, fun δ σ O P H R Q' Q I w h k => ?_⟩
  refine qa δ σ O P H R _ _ I w h fun o1 v1 δ1 O1 H1 I1 at1 s1 h1 => ?_
  split at h1
  · rename_i x e1
    exact hd x v1 δ1 σ O1 P H1 _ Q I1 (at1.lq I1 e1) h1 fun z w' O' H' g s q => k z w' δ1 O' H' g (s1.trans s) q
  · exact h1.elim
/-! ### tests -/
def dTest (t : TD) : TTd := fun δ R Q => t δ R fun r δ' => match r.val with
  | .bool b => Q b δ'
  | _ => False
def dTestO (t : TO') : TTd := fun δ R Q => t δ R fun r δ' => match r.res δ' with
  | some (.bool b) => Q b δ'
  | _ => False
theorem dt_cmp {op : CmpOp} {r : R2} {f : K2} (ho : OpR X (compareOp op) r) (hd : OpD r f) (ha : DA X E a oa) (hb : DA X E b ob) (hm : behindInMarks op b = false := by first | exact nomark _ | rfl) : DT X E (.Compare a [op] [b] pos) (dTest (dOp f oa ob)) := by
  obtain ⟨ta, tb, pa, pb, q⟩ := op_core hd ha hb
  refine ⟨_, pt_cmpR ho pa pb hm, fun δ σ O P H R Q' Q I w h k => ?_⟩
  refine q δ σ O P H R _ _ I w h fun r v δ' O' H' g s h' => ?_
  obtain ⟨O1, R1, d, s1⟩ := g.share s
  split at h'
  · rename_i z b' e
    rw [e] at d; cases d
    exact ⟨_, rfl, k _ δ' O1 H' R1 s1 h'⟩
  · exact h'.elim
theorem dt_val (h : DE X E e te) (he : ∀ whole, isTrue e X.env whole = (do let v ← whole; standAt e.pos; holding [v] (truthy v)) := by intro _; rfl) : DT X E e (dTest te) := by
  obtain ⟨t, p, q⟩ := h.ex
  refine ⟨_, pt_val p he, fun δ σ O P H R Q' Q I w h k => ?_⟩
  refine q δ σ O P H R _ _ I w h fun r v δ' O' H' g s h' => ?_
  obtain ⟨O1, R1, d, s1⟩ := g.share s
  split at h'
  · rename_i z b' e
    rw [e] at d; cases d
    exact ⟨_, rfl, k _ δ' O1 H' R1 s1 h'⟩
  · exact h'.elim
variable {tA tB : TTd}
def dAnd (t u : TTd) : TTd := fun δ R Q => t δ R fun c δ1 => if c = true then u δ1 R Q else Q false δ1
def dOr (t u : TTd) : TTd := fun δ R Q => t δ R fun c δ1 => if c = true then Q true δ1 else u δ1 R Q
def dNot (t : TTd) : TTd := fun δ R Q => t δ R fun c δ1 => Q (!c) δ1
theorem DW.dt (h : DW X E e tA) : DT X E e tA := let ⟨t, p, q⟩ := h.ex; ⟨t, p.pt, q⟩
theorem dw_and1 (h : DT X E a tA) : DW X E (.BoolOp .And [a] pos) tA := let ⟨t, p, q⟩ := h.ex; ⟨t, pw_and1 p, q⟩
theorem dw_or1 (h : DT X E a tA) : DW X E (.BoolOp .Or [a] pos) tA := let ⟨t, p, q⟩ := h.ex; ⟨t, pw_or1 p, q⟩
theorem dw_and {rest : List Expr} (ha : DT X E a tA) (hb : DW X E (.BoolOp .And (b :: rest) pos) tB) : DW X E (.BoolOp .And (a :: b :: rest) pos) (dAnd tA tB) := by
  obtain ⟨t, p, q⟩ := ha.ex
  obtain ⟨t', p', q'⟩ := hb.ex
  refine ⟨_, pw_and p p', fun δ σ O P H R Q' Q I w h k => ?_⟩
  refine q δ σ O P H R _ _ I w h fun c δ1 O1 H1 R1 s1 h1 => ?_
  cases c with
  | true => exact iteT (q' δ1 σ O1 P H1 R _ _ R1 (w.step s1) h1 fun c2 δ2 O2 H2 R2 s2 h2 => k _ δ2 O2 H2 R2 (s1.trans s2) h2)
  | false => exact iteF (k _ δ1 O1 H1 R1 s1 h1)
theorem dw_or {rest : List Expr} (ha : DT X E a tA) (hb : DW X E (.BoolOp .Or (b :: rest) pos) tB) : DW X E (.BoolOp .Or (a :: b :: rest) pos) (dOr tA tB) := by
  obtain ⟨t, p, q⟩ := ha.ex
  obtain ⟨t', p', q'⟩ := hb.ex
  refine ⟨_, pw_or p p', fun δ σ O P H R Q' Q I w h k => ?_⟩
  refine q δ σ O P H R _ _ I w h fun c δ1 O1 H1 R1 s1 h1 => ?_
  cases c with
  | true => exact iteT (k _ δ1 O1 H1 R1 s1 h1)
  | false => exact iteF (q' δ1 σ O1 P H1 R _ _ R1 (w.step s1) h1 fun c2 δ2 O2 H2 R2 s2 h2 => k _ δ2 O2 H2 R2 (s1.trans s2) h2)
theorem dt_not (h : DT X E a tA) : DT X E (.UnaryOp .Not a pos) (dNot tA) := by
  obtain ⟨t, p, q⟩ := h.ex
  refine ⟨_, pt_not p, fun δ σ O P H R Q' Q I w h k => ?_⟩
  exact q δ σ O P H R _ _ I w h fun c δ1 O1 H1 R1 s1 h1 => k _ δ1 O1 H1 R1 s1 h1
/-! ### and, or, not as values (of bools), a if c else b -/
def dAndV (ta tb : TD) : TD := fun δ R Q => ta δ R fun r δ1 => match r.val with
  | .bool c => if c = true then tb δ1 R Q else Q (.d (.bool false)) δ1
  | _ => False
def dOrV (ta tb : TD) : TD := fun δ R Q => ta δ R fun r δ1 => match r.val with
  | .bool c => if c = true then Q (.d (.bool true)) δ1 else tb δ1 R Q
  | _ => False
def dNotV (ta : TD) : TD := fun δ R Q => ta δ R fun r δ1 => match r.val with
  | .bool c => Q (.d (.bool (!c))) δ1
  | _ => False
theorem de_one {op} (h : DE X E a ta) : DE X E (.BoolOp op [a] pos) ta := let ⟨t, p, q⟩ := h.ex; ⟨t, pe_one p, q⟩
theorem de_and {rest : List Expr} (ha : DE X E a ta) (hb : DE X E (.BoolOp .And (b :: rest) pos) tb) : DE X E (.BoolOp .And (a :: b :: rest) pos) (dAndV ta tb) := by
  obtain ⟨t, p, q⟩ := ha.ex
  obtain ⟨t', p', q'⟩ := hb.ex
  refine ⟨_, pe_and p p', fun δ σ O P H R Q' Q I w h k => ?_⟩
  refine q δ σ O P H R _ _ I w h fun r v δ1 O1 H1 g s1 h1 => ?_
  obtain ⟨O2, R2, d, s2⟩ := g.share s1
  split at h1
  · rename_i z c e
    rw [e] at d; cases d
    refine ⟨_, rfl, ?_⟩
    cases c with
    | true => exact iteT (q' δ1 σ O2 P H1 R _ _ R2 (w.step s2) h1 fun r v δ2 O3 H2 g2 s3 h2 => k _ v δ2 O3 H2 g2 (s2.trans s3) h2)
    | false => exact iteF (k _ _ δ1 O2 H1 (.dat R2 (.bl false)) s2 h1)
  · exact h1.elim
theorem de_or {rest : List Expr} (ha : DE X E a ta) (hb : DE X E (.BoolOp .Or (b :: rest) pos) tb) : DE X E (.BoolOp .Or (a :: b :: rest) pos) (dOrV ta tb) := by
  obtain ⟨t, p, q⟩ := ha.ex
  obtain ⟨t', p', q'⟩ := hb.ex
  refine ⟨_, pe_or p p', fun δ σ O P H R Q' Q I w h k => ?_⟩
  refine q δ σ O P H R _ _ I w h fun r v δ1 O1 H1 g s1 h1 => ?_
  obtain ⟨O2, R2, d, s2⟩ := g.share s1
  split at h1
  · rename_i z c e
    rw [e] at d; cases d
    refine ⟨_, rfl, ?_⟩
    cases c with
    | true => exact iteT (k _ _ δ1 O2 H1 (.dat R2 (.bl true)) s2 h1)
    | false => exact iteF (q' δ1 σ O2 P H1 R _ _ R2 (w.step s2) h1 fun r v δ2 O3 H2 g2 s3 h2 => k _ v δ2 O3 H2 g2 (s2.trans s3) h2)
  · exact h1.elim
theorem de_not (ha : DE X E a ta) : DE X E (.UnaryOp .Not a pos) (dNotV ta) := by
  obtain ⟨t, p, q⟩ := ha.ex
  refine ⟨_, pe_not p, fun δ σ O P H R Q' Q I w h k => ?_⟩
  refine q δ σ O P H R _ _ I w h fun r v δ1 O1 H1 g s1 h1 => ?_
  obtain ⟨O2, R2, d, s2⟩ := g.share s1
  split at h1
  · rename_i z c e
    rw [e] at d; cases d
    exact ⟨_, rfl, k _ _ δ1 O2 H1 (.dat R2 (.bl _)) s2 h1⟩
  · exact h1.elim
def dIf (t : TTd) (ta tb : TD) : TD := fun δ R Q => t δ R fun c δ1 => if c = true then ta δ1 R Q else tb δ1 R Q
theorem de_if (hc : DT X E c tA) (ha : DE X E a ta) (hb : DE X E b tb) : DE X E (.IfExp c a b pos) (dIf tA ta tb) := by
  obtain ⟨t, p, q⟩ := hc.ex
  obtain ⟨t1, p1, q1⟩ := ha.ex
  obtain ⟨t2, p2, q2⟩ := hb.ex
  refine ⟨_, pe_ifExp p p1 p2, fun δ σ O P H R Q' Q I w h k => ?_⟩
  refine q δ σ O P H R _ _ I w h fun c δ1 O1 H1 R1 s1 h1 => ?_
  cases c with
  | true => exact iteT (q1 δ1 σ O1 P H1 R _ _ R1 (w.step s1) h1 fun r v δ2 O2 H2 g s2 h2 => k _ v δ2 O2 H2 g (s1.trans s2) h2)
  | false => exact iteF (q2 δ1 σ O1 P H1 R _ _ R1 (w.step s1) h1 fun r v δ2 O2 H2 g s2 h2 => k _ v δ2 O2 H2 g (s1.trans s2) h2)
end

/-! ### lists of arguments -/
abbrev TAd := DSt → RX → (List Opd → DSt → Prop) → Prop
def AllAt (os : List Opd) (vs : List V) (σ : L2.St) (Z : List Addr) (H : Hp) : Prop := Paired (fun o v => OpdAt o v σ Z H) os vs
theorem AllAt.step {os : List Opd} {vs : List V} {σ : L2.St} {O O' P : List Addr} {H H' : Hp} (h : AllAt os vs σ (O ++ P) H) (s : Stp O H O' H') : AllAt os vs σ (O' ++ P) H' := Paired.mapP h fun _ _ q => q.step s
structure DAs (X : Cx) (E : XS) (es : List Expr) (t : TAd) : Prop where
  ex : ∃ ta, PA X es ta ∧ ∀ (δ : DSt) (σ : L2.St) (O P : List Addr) (H : Hp) (R : RX) (Q' : List Opd → DSt → Prop) (Q : List V → Hp → Prop), Rel δ σ O P H → ExW E O P H R → t δ R Q' →
    (∀ os vs δ' O' H', Rel δ' σ O' P H' → AllAt os vs σ (O' ++ P) H' → Stp O H O' H' → Q' os δ' → Q vs H') → ta σ H Q
section
variable {X : Cx} {E : XS} {e : Expr} {es : List Expr} {pos : Pos} {oa : TO'} {ts : TAd}
def aNil : TAd := fun δ _ Q => Q [] δ
def aCons (t : TO') (ts : TAd) : TAd := fun δ R Q => t δ R fun o δ1 => ts δ1 R fun os δ2 => Q (o :: os) δ2
theorem das_nil : DAs X E [] aNil := ⟨_, pa_nil, fun δ σ O P H R Q' Q I w h k => k [] [] δ O H I .nil .refl h⟩
theorem das_cons (ha : DA X E e oa) (hr : DAs X E es ts) (hs : starEach (e :: es) X.env = (false, eval e X.env) :: starEach es X.env := by rfl) : DAs X E (e :: es) (aCons oa ts) := by
  obtain ⟨t, p, q⟩ := ha.ex
  obtain ⟨t', p', q'⟩ := hr.ex
  refine ⟨_, pa_cons p p' hs, fun δ σ O P H R Q' Q I w h k => ?_⟩
  refine q δ σ O P H R _ _ I w h fun o v δ1 O1 H1 R1 a1 s1 h1 => ?_
  refine q' δ1 σ O1 P H1 R _ _ R1 (w.step s1) h1 fun os vs δ2 O2 H2 R2 a2 s2 h2 => ?_
  exact k _ _ δ2 O2 H2 R2 (.cons (a1.step s2) a2) (s1.trans s2) h2
/-- the data of operands -/
def resAll : List Opd → DSt → Option (List PyData)
  | [], _ => some []
  | o :: os, δ => match o.res δ, resAll os δ with
    | some x, some xs => some (x :: xs)
    | _, _ => none
theorem AllAt.lq {δ : DSt} {σ : L2.St} {O P : List Addr} {H : Hp} (R : Rel δ σ O P H) : ∀ {os : List Opd} {vs : List V} {xs : List PyData}, AllAt os vs σ (O ++ P) H → resAll os δ = some xs → Paired (fun v x => Lq (O ++ P) H v x) vs xs
  | [], _, xs, .nil, e => by cases e; exact .nil
  | o :: os, _, xs, .cons h hs, e => by
    unfold resAll at e
    split at e
    · rename_i x xs' e1 e2
      cases e
      exact .cons (h.lq R e1) (AllAt.lq R hs e2)
    · cases e
end
end DL

namespace DL
open PySem L2
/-! ## 5. Operations -/
theorem OpD.mono {r : R2} {f f' : K2} (h : OpD r f) (m : ∀ x y k, f' x y k → f x y k) : OpD r f' := fun x y u v δ σ O P H Q' Q I a b q k => h x y u v δ σ O P H Q' Q I a b (m _ _ _ q) k
theorem OpD.or {r r' : R2} {f f' : K2} (h : OpD r f) (h' : OpD r' f') : OpD (fun x y H Q => r x y H Q ∨ r' x y H Q) (fun x y k => f x y k ∨ f' x y k) := fun x y u v δ σ O P H Q' Q I a b q k => by
  rcases q with q | q
  · exact .inl (h x y u v δ σ O P H Q' Q I a b q k)
  · exact .inr (h' x y u v δ σ O P H Q' Q I a b q k)
def intD (C : Int → Int → Prop) (g : Int → Int → PyData) : K2 := fun x y k => match x, y with
  | .int i, .int j => C i j ∧ k (.d (g i j))
  | _, _ => False
def intD0 (g : Int → Int → PyData) : K2 := fun x y k => match x, y with
  | .int i, .int j => k (.d (g i j))
  | _, _ => False
theorem opd_rI {C : Int → Int → Prop} {g : Int → Int → PyData} {gv : Int → Int → V} (hv : ∀ i j H, Dq H (gv i j) (g i j)) : OpD (rI C gv) (intD C g) := fun x y u v δ σ O P H Q' Q I a b q k => by
  unfold intD at q
  split at q
  · cases a.int; cases b.int
    exact ⟨_, _, rfl, rfl, q.1, k _ _ O H (.dat I (hv _ _ _)) .refl q.2⟩
  · exact q.elim
theorem opd_rI0 {g : Int → Int → PyData} {gv : Int → Int → V} (hv : ∀ i j H, Dq H (gv i j) (g i j)) : OpD (rI0 gv) (intD0 g) := fun x y u v δ σ O P H Q' Q I a b q k => by
  unfold intD0 at q
  split at q
  · cases a.int; cases b.int
    exact ⟨_, _, rfl, rfl, k _ _ O H (.dat I (hv _ _ _)) .refl q⟩
  · exact q.elim
/-! lists that may be read -/
section
variable {X : Cx} {pins : List (Addr × Obj)} {σ : L2.St} {H : Hp} {s : Shared}
theorem lstR {l : Addr} {xs : List V} (I : Inv X pins σ H s) (h : Rd H l (.lst xs)) : xs.length ≤ sizeLine ∧ ∃ (its : List Value) (n : Nat), Vals xs its ∧ xs.length = its.length ∧ s.heap.get? l = some { cls := .type "list", data := .seq its.toArray n } := by
  obtain ⟨z, its, n, r, e⟩ := h.ok I.hok
  exact ⟨z, its, n, r, r.length, e⟩
end
def rCatR : R2 := fun x y H Q => ∃ l b xs zs, x = .ref l ∧ y = .ref b ∧ Rd H l (.lst xs) ∧ Rd H b (.lst zs) ∧ xs.length + zs.length ≤ sizeLine ∧ ∀ p, H p = none → Q (.ref p) (upd H p (.lst (xs ++ zs)))
theorem op_catR {X : Cx} : OpR X (binaryOp .Add) rCatR := by
  intro pins s σ H x y v u Q I rx ry h
  obtain ⟨l, b, xs, zs, rfl, rfl, hH, hB, hz, q⟩ := h
  cases rx
  cases ry
  obtain ⟨z, its, n, r, hl, e⟩ := lstR I hH
  obtain ⟨z2, its2, n2, r2, hl2, e2⟩ := lstR I hB
  refine PySem.P.add_list e e2 ?_ (by rw [List.size_toArray, List.size_toArray]; omega)
  have ea : its.toArray ++ its2.toArray = (its ++ its2).toArray := by simp
  rw [ea]
  exact ⟨.ref _, _, I.lnew (t' := s.toks) (r.append r2) (by rw [List.length_append]; omega), rfl, q _ I.fresh⟩
def rAddU (K : PySem.W.Frag) : R2 := fun x y H Q => rI0 (fun i j => .int (i + j)) x y H Q ∨ (∃ i j, x = .str i ∧ y = .str j ∧ i.length + j.length ≤ sizeLine ∧ Q (.str (i ++ j)) H) ∨ rCatR x y H Q ∨ rCatA K x y H Q
theorem op_addU {X : Cx} : OpR X (binaryOp .Add) (rAddU X.K) := op_add.or (op_add_str.or (op_catR.or op_catA))
def addD : K2 := fun x y k => match x, y with
  | .int i, .int j => k (.d (.int (i + j)))
  | .str a, .str b => a.length + b.length ≤ 16777216 ∧ k (.d (.str (a ++ b)))
  | .list xs, .list ys => xs.length + ys.length ≤ 16777216 ∧ k (.f (xs ++ ys))
  | .tuple xs, .tuple ys => xs.length + ys.length ≤ 16777216 ∧ k (.d (.tuple (xs ++ ys)))
  | _, _ => False
theorem opd_addU {K : PySem.W.Frag} : OpD (rAddU K) addD := fun x y u v δ σ O P H Q' Q I a b q k => by
  unfold addD at q
  split at q
  · cases a.int; cases b.int
    exact .inl ⟨_, _, rfl, rfl, k _ _ O H (.dat I (.int _)) .refl q⟩
  · cases a.str; cases b.str
    exact .inr (.inl ⟨_, _, rfl, rfl, q.1, k _ _ O H (.dat I (.str _)) .refl q.2⟩)
  · obtain ⟨l, vs, rfl, h1, h2⟩ := a.lst
    obtain ⟨l', vs', rfl, h1', h2'⟩ := b.lst
    refine .inr (.inr (.inl ⟨l, l', vs, vs', rfl, rfl, h1, h1', by rw [dpa_len h2, dpa_len h2']; exact q.1, fun p np => ?_⟩))
    exact k _ _ (p :: O) _ (.newl I np (dpa_append h2 h2')) (.newo np) q.2
  · obtain ⟨l, vs, rfl, h1, h2, d1⟩ := a.tup
    obtain ⟨l', vs', rfl, h1', h2', d2⟩ := b.tup
    refine .inr (.inr (.inr ⟨l, l', vs, vs', rfl, rfl, .inl h1, .inl h1', by rw [dpa_len h2, dpa_len h2']; exact q.1, fun e => ?_, fun _ e => ?_, fun _ _ p np => ?_⟩))
    · subst e; cases h2; exact k _ _ O H (.dat I d2) .refl q.2
    · subst e; cases h2'; rw [List.append_nil] at q; exact k _ _ O H (.dat I d1) .refl q.2
    · exact k _ _ O _ (.newt I np (dpa_append h2 h2')) (.newd np) q.2
  · exact q.elim
theorem opd_sub : OpD (rI0 fun i j => .int (i - j)) (intD0 fun i j => .int (i - j)) := opd_rI0 fun _ _ _ => .int _
theorem opd_mulX : OpD (rI CMulX fun i j => .int (i * j)) (intD CMulX fun i j => .int (i * j)) := opd_rI fun _ _ _ => .int _
theorem opd_mod : OpD (rI (fun _ j => 0 < j) fun i j => .int (i % j)) (intD (fun _ j => 0 < j) fun i j => .int (i % j)) := opd_rI fun _ _ _ => .int _
theorem opd_fdivW : OpD (rI CDivW fun i j => .int (i / j)) (intD CDivW fun i j => .int (i / j)) := opd_rI fun _ _ _ => .int _
theorem opd_pow : OpD (rI CPow fun i j => .int (i ^ j.toNat)) (intD CPow fun i j => .int (i ^ j.toNat)) := opd_rI fun _ _ _ => .int _
theorem opd_lt : OpD (rI0 fun i j => .bl (decide (i < j))) (intD0 fun i j => .bool (decide (i < j))) := opd_rI0 fun _ _ _ => .bl _
theorem opd_le : OpD (rI0 fun i j => .bl (decide (i ≤ j))) (intD0 fun i j => .bool (decide (i ≤ j))) := opd_rI0 fun _ _ _ => .bl _
theorem opd_gt : OpD (rI0 fun i j => .bl (decide (j < i))) (intD0 fun i j => .bool (decide (j < i))) := opd_rI0 fun _ _ _ => .bl _
theorem opd_ge : OpD (rI0 fun i j => .bl (decide (j ≤ i))) (intD0 fun i j => .bool (decide (j ≤ i))) := opd_rI0 fun _ _ _ => .bl _
theorem sh_lay {x : PyData} (h : SeqAt.shaped x = true) : x.canLay0 = true := by
  unfold SeqAt.shaped at h
  exact (Bool.and_eq_true_iff.mp h).1
/-- == of data: of ints and of texts without a look at their shape -/
def eqD : K2 := fun x y k => match x, y with
  | .int i, .int j => k (.d (.bool (decide (i = j))))
  | .str a, .str b => k (.d (.bool (decide (a = b))))
  | x, y => SeqAt.shaped x = true ∧ SeqAt.shaped y = true ∧ k (.d (.bool (PyData.eqv x y)))
def neD : K2 := fun x y k => match x, y with
  | .int i, .int j => k (.d (.bool (!decide (i = j))))
  | .str a, .str b => k (.d (.bool (!decide (a = b))))
  | x, y => SeqAt.shaped x = true ∧ SeqAt.shaped y = true ∧ k (.d (.bool (!PyData.eqv x y)))
def rEqU (K : PySem.W.Frag) : R2 := fun x y H Q => rEqD K x y H Q ∨ rEq x y H Q
def rNeU (K : PySem.W.Frag) : R2 := fun x y H Q => rNeD K x y H Q ∨ rNe x y H Q
theorem op_eqU {X : Cx} (hu : X.A.units + 64 < cLine) : OpR X (compareOp .Eq) (rEqU X.K) := (op_eqD hu).or op_eq
theorem op_neU {X : Cx} (hu : X.A.units + 64 < cLine) : OpR X (compareOp .NotEq) (rNeU X.K) := (op_neD hu).or op_ne
theorem opd_eqD {K : PySem.W.Frag} : OpD (rEqU K) eqD := fun x y u v δ σ O P H Q' Q I a b q k => by
  unfold eqD at q
  split at q
  · rename_i i j
    cases a.int; cases b.int
    have e : decide (V.int i = V.int j) = decide (i = j) := by simp
    exact .inr ⟨rfl, by rw [e]; exact k _ _ O H (.dat I (.bl _)) .refl q⟩
  · rename_i i j
    cases a.str; cases b.str
    have e : decide (V.str i = V.str j) = decide (i = j) := by simp
    exact .inr ⟨rfl, by rw [e]; exact k _ _ O H (.dat I (.bl _)) .refl q⟩
  · obtain ⟨s1, s2, q⟩ := q
    exact .inl ⟨x, y, Dq.dp _ _ (sh_lay s1) a.full, Dq.dp _ _ (sh_lay s2) b.full, s1, s2, k _ _ O H (.dat I (.bl _)) .refl q⟩
theorem opd_neD {K : PySem.W.Frag} : OpD (rNeU K) neD := fun x y u v δ σ O P H Q' Q I a b q k => by
  unfold neD at q
  split at q
  · rename_i i j
    cases a.int; cases b.int
    have e : decide (V.int i = V.int j) = decide (i = j) := by simp
    exact .inr ⟨rfl, by rw [e]; exact k _ _ O H (.dat I (.bl _)) .refl q⟩
  · rename_i i j
    cases a.str; cases b.str
    have e : decide (V.str i = V.str j) = decide (i = j) := by simp
    exact .inr ⟨rfl, by rw [e]; exact k _ _ O H (.dat I (.bl _)) .refl q⟩
  · obtain ⟨s1, s2, q⟩ := q
    exact .inl ⟨x, y, Dq.dp _ _ (sh_lay s1) a.full, Dq.dp _ _ (sh_lay s2) b.full, s1, s2, k _ _ O H (.dat I (.bl _)) .refl q⟩
def PyData.isNone : PyData → Bool
  | .none => true
  | _ => false
def isND : K2 := fun x y k => match x, y with
  | .bool a, .bool b => k (.d (.bool (decide (a = b))))
  | x, .none => k (.d (.bool (PyData.isNone x)))
  | _, _ => False
def notND : K2 := fun x y k => match x, y with
  | .bool a, .bool b => k (.d (.bool (!decide (a = b))))
  | x, .none => k (.d (.bool (!PyData.isNone x)))
  | _, _ => False
def rIsU : R2 := fun x y H Q => (y = .non ∧ Q (.bl (decide (x = .non))) H) ∨ rIsB x y H Q
def rNotU : R2 := fun x y H Q => (y = .non ∧ Q (.bl (!decide (x = .non))) H) ∨ rNotB x y H Q
theorem op_isU {X : Cx} : OpR X (compareOp .Is) rIsU := op_isN.or op_isBl
theorem op_notU {X : Cx} : OpR X (compareOp .IsNot) rNotU := op_notN.or op_notBl
theorem isNone_dec {H : Hp} {v : V} {x : PyData} (h : Dq H v x) : decide (v = .non) = PyData.isNone x := by cases h <;> rfl
theorem opd_isN : OpD rIsU isND := fun x y u v δ σ O P H Q' Q I a b q k => by
  unfold isND at q
  split at q
  · cases a.bl; cases b.bl
    exact .inr ⟨_, _, rfl, rfl, k _ _ O H (.dat I (.bl _)) .refl q⟩
  · exact .inl ⟨b.non, by rw [isNone_dec a.full]; exact k _ _ O H (.dat I (.bl _)) .refl q⟩
  · exact q.elim
theorem opd_notN : OpD rNotU notND := fun x y u v δ σ O P H Q' Q I a b q k => by
  unfold notND at q
  split at q
  · cases a.bl; cases b.bl
    exact .inr ⟨_, _, rfl, rfl, k _ _ O H (.dat I (.bl _)) .refl q⟩
  · exact .inl ⟨b.non, by rw [isNone_dec a.full]; exact k _ _ O H (.dat I (.bl _)) .refl q⟩
  · exact q.elim
/-- x in a list of data -/
def inD : K2 := fun x y k => match y with
  | .list ds => SeqAt.shaped x = true ∧ SeqAt.shaped (.list ds) = true ∧ k (.d (.bool (ds.any fun z => PyData.eqv z x)))
  | _ => False
def notInD : K2 := fun x y k => match y with
  | .list ds => SeqAt.shaped x = true ∧ SeqAt.shaped (.list ds) = true ∧ k (.d (.bool (!ds.any fun z => PyData.eqv z x)))
  | _ => False
theorem opd_inD {K : PySem.W.Frag} : OpD (rInD K) inD := fun x y u v δ σ O P H Q' Q I a b q k => by
  unfold inD at q
  split at q
  · exact ⟨x, _, Dq.dp _ _ (sh_lay q.1) a.full, Dq.dp _ _ (sh_lay q.2.1) b.full, q.1, q.2.1, k _ _ O H (.dat I (.bl _)) .refl q.2.2⟩
  · exact q.elim
theorem opd_notInD {K : PySem.W.Frag} : OpD (rNotInD K) notInD := fun x y u v δ σ O P H Q' Q I a b q k => by
  unfold notInD at q
  split at q
  · exact ⟨x, _, Dq.dp _ _ (sh_lay q.1) a.full, Dq.dp _ _ (sh_lay q.2.1) b.full, q.1, q.2.1, k _ _ O H (.dat I (.bl _)) .refl q.2.2⟩
  · exact q.elim
/-- x[i] -/
def ixD : K2 := fun x y k => match x, y with
  | .list xs, .int i => match atI xs i with
    | some z => k (.d z)
    | none => False
  | .tuple xs, .int i => match atI xs i with
    | some z => k (.d z)
    | none => False
  | _, _ => False
theorem dpa_atI {H : Hp} {vs : List V} {xs : List PyData} {i : Int} {z : PyData} (h : DqAll H vs xs) (e : atI xs i = some z) : ∃ v, atI vs i = some v ∧ Dq H v z := by
  unfold atI at e ⊢
  rw [dpa_len h]
  cases g : ixN xs.length i with
  | none => rw [g] at e; cases e
  | some j =>
    rw [g] at e
    exact dpa_get h e
def rIxU (K : PySem.W.Frag) : R2 := fun x y H Q => rIxL K x y H Q ∨ rIxT K x y H Q
theorem ix_U {X : Cx} : IxR X (rIxU X.K) := ix_list.or ix_tup
theorem opd_ix {K : PySem.W.Frag} : OpD (rIxU K) ixD := fun x y u v δ σ O P H Q' Q I a b q k => by
  unfold ixD at q
  split at q
  · cases b.int
    obtain ⟨l, vs, rfl, h1, h2⟩ := a.lst
    split at q
    · rename_i z e
      obtain ⟨w, e1, e2⟩ := dpa_atI h2 e
      exact .inl ⟨l, vs, _, w, rfl, rfl, .inl h1, e1, k _ _ O H (.dat I e2) .refl q⟩
    · exact q.elim
  · cases b.int
    obtain ⟨l, vs, rfl, h1, h2, _⟩ := a.tup
    split at q
    · rename_i z e
      obtain ⟨w, e1, e2⟩ := dpa_atI h2 e
      exact .inr ⟨l, vs, _, w, rfl, rfl, .inl h1, e1, k _ _ O H (.dat I e2) .refl q⟩
    · exact q.elim
  · exact q.elim
def negD : K1 := fun x k => match x with
  | .int i => k (.d (.int (-i)))
  | _ => False
theorem und_neg : UnD (rU fun i => .int (-i)) negD := fun x u δ σ O P H Q' Q I a q k => by
  unfold negD at q
  split at q
  · cases a.int
    exact ⟨_, rfl, k _ _ O H (.dat I (.int _)) .refl q⟩
  · exact q.elim
/-! ### a < b < c -/
section
variable {X : Cx} {E : XS} {a b c : Expr} {pos : Pos} {oa ob oc : TO'}
def dChain (f f' : K2) (ta tb tc : TO') : TD := fun δ R Q => ta δ R fun a δ1 => tb δ1 R fun b δ2 => match a.res δ2, b.res δ2 with
  | some x, some y => f x y fun z => match z.val with
    | .bool c => if c = true then tc δ2 R fun c δ3 => match b.res δ3, c.res δ3 with
      | some y, some w => f' y w fun z => Q z δ3
      | _, _ => False
      else Q (.d (.bool false)) δ2
    | _ => False
  | _, _ => False
theorem chain_core {r r' : R2} {f f' : K2} (hd : OpD r f) (hd' : OpD r' f') (ha : DA X E a oa) (hb : DA X E b ob) (hc : DA X E c oc) : ∃ ta tb tc, PE X a ta ∧ PE X b tb ∧ PE X c tc ∧
    ∀ (δ : DSt) (σ : L2.St) (O P : List Addr) (H : Hp) (R : RX) (Q' : Rs → DSt → Prop) (Q : VK), Rel δ σ O P H → ExW E O P H R → dChain f f' oa ob oc δ R Q' → (∀ r v δ' O' H', Got r v δ' σ O' P H' → Stp O H O' H' → Q' r δ' → Q v H') → tChain r r' ta tb tc σ H Q := by
  obtain ⟨ta, pa, qa⟩ := ha.ex
  obtain ⟨tb, pb, qb⟩ := hb.ex
  obtain ⟨tc, pc, qc⟩ := hc.ex
  refine ⟨ta, tb, tc, pa, pb, pc, fun δ σ O P H R Q' Q I w h k => ?_⟩
  refine qa δ σ O P H R _ _ I w h fun o1 v1 δ1 O1 H1 I1 at1 s1 h1 => ?_
  refine qb δ1 σ O1 P H1 R _ _ I1 (w.step s1) h1 fun o2 v2 δ2 O2 H2 I2 at2 s2 h2 => ?_
  have at1' := at1.step s2
  split at h2
  · rename_i x y e1 e2
    refine hd x y v1 v2 δ2 σ O2 P H2 _ _ I2 (at1'.lq I2 e1) (at2.lq I2 e2) h2 fun z w' O3 H3 g s3 q => ?_
    obtain ⟨O4, R4, d4, s4⟩ := g.share s3
    split at q
    · rename_i z' c e3
      rw [e3] at d4; cases d4
      cases c with
      | true =>
        refine ⟨true, rfl, iteT ?_⟩
        rw [if_pos rfl] at q
        refine qc δ2 σ O4 P H3 R _ _ R4 (((w.step s1).step s2).step s4) q fun o5 v5 δ5 O5 H5 I5 at5 s5 h5 => ?_
        have at2' := (at2.step s4).step s5
        split at h5
        · rename_i x' y' e5 e6
          exact hd' x' y' v2 v5 δ5 σ O5 P H5 _ Q I5 (at2'.lq I5 e5) (at5.lq I5 e6) h5 fun z w' O' H' g s q => k z w' δ5 O' H' g (((((s1.trans s2).trans s4).trans s5)).trans s) q
        · exact h5.elim
      | false =>
        refine ⟨false, rfl, iteF ?_⟩
        rw [if_neg Bool.false_ne_true] at q
        exact k _ _ δ2 O4 H3 (.dat R4 (.bl false)) ((s1.trans s2).trans s4) q
    · exact q.elim
  · exact h2.elim
theorem de_chain {op op' : CmpOp} {r r' : R2} {f f' : K2} (ho : OpR X (compareOp op) r) (hd : OpD r f) (ho' : OpR X (compareOp op') r') (hd' : OpD r' f') (ha : DA X E a oa) (hb : DA X E b ob) (hc : DA X E c oc)
    (hm : lastMarks [op, op'] [b, c] = false := by with_unfolding_all rfl) : DE X E (.Compare a [op, op'] [b, c] pos) (dChain f f' oa ob oc) := by
  obtain ⟨ta, tb, tc, pa, pb, pc, q⟩ := chain_core hd hd' ha hb hc
  exact ⟨_, pe_chain ho ho' pa pb pc hm, q⟩
/-- as a test -/
theorem dt_chain {op op' : CmpOp} {r r' : R2} {f f' : K2} (ho : OpR X (compareOp op) r) (hd : OpD r f) (ho' : OpR X (compareOp op') r') (hd' : OpD r' f') (ha : DA X E a oa) (hb : DA X E b ob) (hc : DA X E c oc)
    (hm : lastMarks [op, op'] [b, c] = false := by with_unfolding_all rfl) : DT X E (.Compare a [op, op'] [b, c] pos) (dTest (dChain f f' oa ob oc)) := by
  obtain ⟨ta, tb, tc, pa, pb, pc, q⟩ := chain_core hd hd' ha hb hc
  refine ⟨_, pt_chain ho ho' pa pb pc hm, fun δ σ O P H R Q' Q I w h k => ?_⟩
  refine q δ σ O P H R _ _ I w h fun r v δ' O' H' g s h' => ?_
  obtain ⟨O1, R1, d, s1⟩ := g.share s
  split at h'
  · rename_i z b' e
    rw [e] at d; cases d
    exact ⟨_, rfl, k _ δ' O1 H' R1 s1 h'⟩
  · exact h'.elim
end
end DL

namespace DL
open PySem L2
/-! ## 6. Displays, slices, calls of built-ins -/
abbrev TDs := DSt → RX → (List PyData → DSt → Prop) → Prop
structure DEs (X : Cx) (E : XS) (es : List Expr) (t : TDs) : Prop where
  ex : ∃ ta, PA X es ta ∧ ∀ (δ : DSt) (σ : L2.St) (O P : List Addr) (H : Hp) (R : RX) (Q' : List PyData → DSt → Prop) (Q : List V → Hp → Prop), Rel δ σ O P H → ExW E O P H R → t δ R Q' →
    (∀ xs vs δ' O' H', Rel δ' σ O' P H' → DqAll (frz (O' ++ P) H') vs xs → Stp O H O' H' → Q' xs δ' → Q vs H') → ta σ H Q
section
variable {X : Cx} {E : XS} {e a : Expr} {es : List Expr} {pos : Pos} {te : TD} {ts : TDs} {oa : TO'} {ta : TAd}
def dNil : TDs := fun δ _ Q => Q [] δ
def dCons (t : TD) (ts : TDs) : TDs := fun δ R Q => t δ R fun r δ1 => ts δ1 R fun xs δ2 => Q (r.val :: xs) δ2
theorem des_nil : DEs X E [] dNil := ⟨_, pa_nil, fun δ σ O P H R Q' Q I w h k => k [] [] δ O H I .nil .refl h⟩
theorem des_cons (ha : DE X E e te) (hr : DEs X E es ts) (hs : starEach (e :: es) X.env = (false, eval e X.env) :: starEach es X.env := by rfl) : DEs X E (e :: es) (dCons te ts) := by
  obtain ⟨t, p, q⟩ := ha.ex
  obtain ⟨t', p', q'⟩ := hr.ex
  refine ⟨_, pa_cons p p' hs, fun δ σ O P H R Q' Q I w h k => ?_⟩
  refine q δ σ O P H R _ _ I w h fun r v δ1 O1 H1 g s1 h1 => ?_
  obtain ⟨O2, R2, d, s2⟩ := g.share s1
  refine q' δ1 σ O2 P H1 R _ _ R2 (w.step s2) h1 fun xs vs δ2 O3 H2 R3 a3 s3 h2 => ?_
  exact k _ _ δ2 O3 H2 R3 (.cons (s3.dp d) a3) (s2.trans s3) h2
def dLst (ts : TDs) : TD := fun δ R Q => ts δ R fun xs δ1 => xs.length ≤ 16777216 ∧ Q (.f xs) δ1
def dTup (ts : TDs) : TD := fun δ R Q => ts δ R fun xs δ1 => xs.length ≤ 16777216 ∧ Q (.d (.tuple xs)) δ1
theorem de_lst (h : DEs X E es ts) : DE X E (.List es pos) (dLst ts) := by
  obtain ⟨t, p, q⟩ := h.ex
  refine ⟨_, pe_lst p, fun δ σ O P H R Q' Q I w h k => ?_⟩
  refine q δ σ O P H R _ _ I w h fun xs vs δ1 O1 H1 R1 a1 s1 h1 => ?_
  refine ⟨by rw [dpa_len a1]; exact h1.1, fun p np => ?_⟩
  exact k _ _ δ1 (p :: O1) _ (.newl R1 np a1) (s1.trans (.newo np)) h1.2
theorem de_tup {x1} (h : DEs X E es ts) : DE X E (.Tuple es x1 pos) (dTup ts) := by
  obtain ⟨t, p, q⟩ := h.ex
  refine ⟨_, pe_tup p, fun δ σ O P H R Q' Q I w h k => ?_⟩
  refine q δ σ O P H R _ _ I w h fun xs vs δ1 O1 H1 R1 a1 s1 h1 => ?_
  refine ⟨by rw [dpa_len a1]; exact h1.1, fun p np => ?_⟩
  exact k _ _ δ1 O1 _ (.newt R1 np a1) (s1.trans (.newd np)) h1.2
/-! ### slices -/
abbrev TPd := DSt → RX → (Option Int → DSt → Prop) → Prop
structure DP (X : Cx) (E : XS) (e : Option Expr) (t : TPd) : Prop where
  ex : ∃ tp, PO X e tp ∧ ∀ (δ : DSt) (σ : L2.St) (O P : List Addr) (H : Hp) (R : RX) (Q' : Option Int → DSt → Prop) (Q : Option Int → Hp → Prop), Rel δ σ O P H → ExW E O P H R → t δ R Q' →
    (∀ o δ' O' H', Rel δ' σ O' P H' → Stp O H O' H' → Q' o δ' → Q o H') → tp σ H Q
def pNone : TPd := fun δ _ Q => Q none δ
def pSome (t : TO') : TPd := fun δ R Q => t δ R fun o δ1 => match o.res δ1 with
  | some (.int i) => Q (some i) δ1
  | _ => False
theorem dp_none : DP X E none pNone := ⟨_, po_none, fun δ σ O P H R Q' Q I w h k => k none δ O H I .refl h⟩
theorem dp_some (ha : DA X E e oa) : DP X E (some e) (pSome oa) := by
  obtain ⟨t, p, q⟩ := ha.ex
  refine ⟨_, po_some p, fun δ σ O P H R Q' Q I w h k => ?_⟩
  refine q δ σ O P H R _ _ I w h fun o v δ1 O1 H1 R1 a1 s1 h1 => ?_
  split at h1
  · rename_i i e1
    cases (a1.lq R1 e1).int
    exact ⟨i, rfl, k _ δ1 O1 H1 R1 s1 h1⟩
  · exact h1.elim
def cutD (xs : List PyData) (lo hi : Option Int) : List PyData := (xs.drop (HT.sIx xs.length 0 lo)).take (HT.sIx xs.length xs.length hi - HT.sIx xs.length 0 lo)
theorem dpa_cut {H : Hp} {vs : List V} {xs : List PyData} {lo hi : Option Int} (h : DqAll H vs xs) : DqAll H (cutV vs lo hi) (cutD xs lo hi) := by
  unfold cutV cutD
  rw [dpa_len h]
  exact dpa_take _ (dpa_drop _ h)
def slD (x : PyData) (lo hi : Option Int) (k : Rs → Prop) : Prop := match x with
  | .list xs => k (.f (cutD xs lo hi))
  | .tuple xs => k (.d (.tuple (cutD xs lo hi)))
  | _ => False
def rSlU (K : PySem.W.Frag) : V → Option Int → Option Int → Hp → VK → Prop := fun x lo hi H Q => rSlL K x lo hi H Q ∨ rSlA K x lo hi H Q
theorem sl_U : SlR X (rSlU X.K) := sl_list.or sl_tupA
theorem cut_whole {xs : List PyData} {lo hi : Option Int} (h : HT.sIx xs.length 0 lo = 0 ∧ HT.sIx xs.length xs.length hi = xs.length) : cutD xs lo hi = xs := by
  unfold cutD
  rw [h.1, h.2, List.drop_zero, Nat.sub_zero, List.take_length]
def dSl (ta : TO') (tl th : TPd) : TD := fun δ R Q => ta δ R fun o δ1 => tl δ1 R fun lo δ2 => th δ2 R fun hi δ3 => match o.res δ3 with
  | some x => slD x lo hi fun z => Q z δ3
  | none => False
theorem de_sl {lo hi : Option Expr} {p2 : Pos} {tl th : TPd} (ha : DA X E e oa) (hl : DP X E lo tl) (hh : DP X E hi th) : DE X E (.Subscript e (.Slice lo hi none p2) pos) (dSl oa tl th) := by
  obtain ⟨t, p, q⟩ := ha.ex
  obtain ⟨t1, p1, q1⟩ := hl.ex
  obtain ⟨t2, p2, q2⟩ := hh.ex
  refine ⟨_, pe_slice sl_U p p1 p2, fun δ σ O P H R Q' Q I w h k => ?_⟩
  refine q δ σ O P H R _ _ I w h fun o v δ1 O1 H1 R1 a1 s1 h1 => ?_
  refine q1 δ1 σ O1 P H1 R _ _ R1 (w.step s1) h1 fun lo δ2 O2 H2 R2 s2 h2 => ?_
  refine q2 δ2 σ O2 P H2 R _ _ R2 ((w.step s1).step s2) h2 fun hi δ3 O3 H3 R3 s3 h3 => ?_
  have a3 := (a1.step s2).step s3
  split at h3
  · rename_i x e1
    have l := a3.lq R3 e1
    unfold slD at h3
    split at h3
    · obtain ⟨b, vs, rfl, hr, ha⟩ := l.lst
      exact .inl ⟨b, vs, rfl, .inl hr, fun p np => k _ _ δ3 (p :: O3) _ (.newl R3 np (dpa_cut ha)) (((s1.trans s2).trans s3).trans (.newo np)) h3⟩
    · obtain ⟨b, vs, rfl, hr, ha, d⟩ := l.tup
      have e : vs.length = _ := dpa_len ha
      refine .inr ⟨b, vs, rfl, .inl hr, fun hw => ?_, fun hw p np => ?_⟩
      · rw [e] at hw
        rw [cut_whole hw] at h3
        exact k _ _ δ3 O3 H3 (.dat R3 d) ((s1.trans s2).trans s3) h3
      · exact k _ _ δ3 O3 _ (.newt R3 np (dpa_cut ha)) (((s1.trans s2).trans s3).trans (.newd np)) h3
    · exact h3.elim
  · exact h3.elim
/-! ### built-ins called by name -/
abbrev KC := List PyData → (Rs → Prop) → Prop
abbrev RC := List V → Hp → VK → Prop
def CallD (r : RC) (f : KC) : Prop := ∀ (xs : List PyData) (vs : List V) (δ : DSt) (σ : L2.St) (O P : List Addr) (H : Hp) (Q' : Rs → Prop) (Q : VK), Rel δ σ O P H → Paired (fun v x => Lq (O ++ P) H v x) vs xs → f xs Q' →
  (∀ z w O' H', Got z w δ σ O' P H' → Stp O H O' H' → Q' z → Q w H') → r vs H Q
def dCB (f : KC) (ts : TAd) : TD := fun δ R Q => ts δ R fun os δ1 => match resAll os δ1 with
  | some xs => f xs fun z => Q z δ1
  | none => False
theorem cb_core {r : RC} {f : KC} (hd : CallD r f) (ha : DAs X E es ta) : ∃ t, PA X es t ∧ ∀ (δ : DSt) (σ : L2.St) (O P : List Addr) (H : Hp) (R : RX) (Q' : Rs → DSt → Prop) (Q : VK), Rel δ σ O P H → ExW E O P H R → dCB f ta δ R Q' →
    (∀ r v δ' O' H', Got r v δ' σ O' P H' → Stp O H O' H' → Q' r δ' → Q v H') → tCB r t σ H Q := by
  obtain ⟨t, p, q⟩ := ha.ex
  refine ⟨t, p, fun δ σ O P H R Q' Q I w h k => ?_⟩
  refine q δ σ O P H R _ _ I w h fun os vs δ1 O1 H1 R1 a1 s1 h1 => ?_
  split at h1
  · rename_i xs e1
    exact hd xs vs δ1 σ O1 P H1 _ Q R1 (a1.lq R1 e1) h1 fun z w' O' H' g s q => k z w' δ1 O' H' g (s1.trans s) q
  · exact h1.elim
theorem de_callB {x : Str} {id : String} {p : Pos} {r : RC} {f : KC} (hc : CallR X (.builtin id) r) (hd : CallD r f) (hg : Gl X x) (hm : X.mg x = none) (hv : bootBuiltins x = some (.builtin id)) (ha : DAs X E (e :: es) ta) (hn : x ≠ "__name__" := by decide) (hdb : (x == ("__debug__" : Str)) = false := by decide)
    (he : starEach (e :: es) X.env = (false, eval e X.env) :: starEach es X.env := by rfl) (hpl : (backTo pos (starEach es X.env)).any (·.1) = false := by rfl) : DE X E (.Call (.Name x p) (e :: es) [] pos) (dCB f ta) := by
  obtain ⟨t, pt, q⟩ := cb_core hd ha
  exact ⟨_, pe_callB hc hg hm hv pt hn hdb he hpl, q⟩
theorem de_callTy {x : Str} {T : String} {p : Pos} {r : RC} {f : KC} (hc : CallR X (.type T) r) (hd : CallD r f) (hg : Gl X x) (hm : X.mg x = none) (hv : bootBuiltins x = some (.type T)) (ha : DAs X E (e :: es) ta) (hn : x ≠ "__name__" := by decide) (hdb : (x == ("__debug__" : Str)) = false := by decide)
    (he : starEach (e :: es) X.env = (false, eval e X.env) :: starEach es X.env := by rfl) (hpl : (backTo pos (starEach es X.env)).any (·.1) = false := by rfl) : DE X E (.Call (.Name x p) (e :: es) [] pos) (dCB f ta) := by
  obtain ⟨t, pt, q⟩ := cb_core hd ha
  exact ⟨_, pe_callTy hc hg hm hv pt hn hdb he hpl, q⟩
end
def absK : KC := fun xs k => match xs with
  | [.int i] => k (.d (.int (if i < 0 then -i else i)))
  | _ => False
theorem cd_abs : CallD (fun xs H Q => ∃ i, xs = [.int i] ∧ Q (.int (if i < 0 then -i else i)) H) absK := fun xs vs δ σ O P H Q' Q I a q k => by
  unfold absK at q
  split at q
  · obtain _ | ⟨a, _ | _⟩ := a
    cases a.int
    exact ⟨_, rfl, k _ _ O H (.dat I (.int _)) .refl q⟩
  · exact q.elim
def intK : KC := fun xs k => match xs with
  | [.int i] => k (.d (.int i))
  | [.bool b] => k (.d (.int (if b then 1 else 0)))
  | _ => False
theorem cd_int : CallD (fun xs H Q => (∃ i, xs = [.int i] ∧ Q (.int i) H) ∨ ∃ k, xs = [.bl k] ∧ Q (.int (if k then 1 else 0)) H) intK := fun xs vs δ σ O P H Q' Q I a q k => by
  unfold intK at q
  split at q
  · obtain _ | ⟨a, _ | _⟩ := a
    cases a.int
    exact .inl ⟨_, rfl, k _ _ O H (.dat I (.int _)) .refl q⟩
  · obtain _ | ⟨a, _ | _⟩ := a
    cases a.bl
    exact .inr ⟨_, rfl, k _ _ O H (.dat I (.int _)) .refl q⟩
  · exact q.elim
def lenK : KC := fun xs k => match xs with
  | [.list ys] => k (.d (.int (ys.length : Int)))
  | [.tuple ys] => k (.d (.int (ys.length : Int)))
  | _ => False
theorem cd_len {K : PySem.W.Frag} : CallD (fun xs H Q => ∃ p ys, xs = [.ref p] ∧ (SqL K H p ys ∨ SqT K H p ys) ∧ Q (.int ys.length) H) lenK := fun xs vs δ σ O P H Q' Q I a q k => by
  unfold lenK at q
  split at q
  · obtain _ | ⟨a, _ | _⟩ := a
    obtain ⟨b, vs, rfl, hr, ha⟩ := a.lst
    exact ⟨b, vs, rfl, .inl (.inl hr), by rw [dpa_len ha]; exact k _ _ O H (.dat I (.int _)) .refl q⟩
  · obtain _ | ⟨a, _ | _⟩ := a
    obtain ⟨b, vs, rfl, hr, ha, _⟩ := a.tup
    exact ⟨b, vs, rfl, .inr (.inl hr), by rw [dpa_len ha]; exact k _ _ O H (.dat I (.int _)) .refl q⟩
  · exact q.elim
def max2K : KC := fun xs k => match xs with
  | [.int i, .int j] => k (.d (.int (if j > i then j else i)))
  | _ => False
def min2K : KC := fun xs k => match xs with
  | [.int i, .int j] => k (.d (.int (if j < i then j else i)))
  | _ => False
theorem cd_max2 : CallD (fun xs H Q => ∃ i j, xs = [.int i, .int j] ∧ Q (.int (if j > i then j else i)) H) max2K := fun xs vs δ σ O P H Q' Q I a q k => by
  unfold max2K at q
  split at q
  · obtain _ | ⟨a, _ | ⟨b, _ | _⟩⟩ := a
    cases a.int; cases b.int
    exact ⟨_, _, rfl, k _ _ O H (.dat I (.int _)) .refl q⟩
  · exact q.elim
theorem cd_min2 : CallD (fun xs H Q => ∃ i j, xs = [.int i, .int j] ∧ Q (.int (if j < i then j else i)) H) min2K := fun xs vs δ σ O P H Q' Q I a q k => by
  unfold min2K at q
  split at q
  · obtain _ | ⟨a, _ | ⟨b, _ | _⟩⟩ := a
    cases a.int; cases b.int
    exact ⟨_, _, rfl, k _ _ O H (.dat I (.int _)) .refl q⟩
  · exact q.elim
def rSumT (K : PySem.W.Frag) : List V → Hp → VK → Prop := fun vs H Q => ∃ (a : Addr) (ns : List Int), vs = [V.ref a] ∧ SqT K H a (ns.map V.int) ∧ Q (.int ns.sum) H
def rSumU (K : PySem.W.Frag) : List V → Hp → VK → Prop := fun vs H Q => rSum K vs H Q ∨ rSumT K vs H Q
theorem cr_sumU {X : Cx} (hc : X.calm = true) : CallR X (.builtin "sum") (rSumU X.K) := (cr_sum hc).or (by
  intro pins s σ H vs us Q I r h
  obtain ⟨a, ns, rfl, hs, q⟩ := h
  obtain ⟨its, rv, hl, _⟩ := I.tuple hs
  rw [Vals.ref1 r]
  have hi := rv.ints
  obtain ⟨xs, e⟩ := hi.allInts.items
  have hn : PySem.numsOf (PySem.intItems xs).toList = ns := by rw [← e]; exact hi.numsOf
  rw [PySem.nums_intItems] at hn
  have hl' : s.heap.IsTuple a its.toArray := hl
  rw [e] at hl'
  refine PySem.W.ktm_sumG (I.ok.hd hc) hl' fun h' tk t' hk => ?_
  rw [PySem.preSum_eq, List.take_of_length_le (by simp), hn]
  exact ⟨.int _, H, I.kept hk, ⟨_, rfl⟩, q⟩)
/-- of a list of ints (any list that is one) -/
def sumK : KC := fun xs k => match xs with
  | [.list ys] => ∃ ns : List Int, ys = ns.map PyData.int ∧ k (.d (.int ns.sum))
  | [.tuple ys] => ∃ ns : List Int, ys = ns.map PyData.int ∧ k (.d (.int ns.sum))
  | _ => False
def maxK : KC := fun xs k => match xs with
  | [.list ys] => ∃ ns : List Int, ys = ns.map PyData.int ∧ 0 < ns.length ∧ ∀ m, m ∈ ns → (∀ y, y ∈ ns → y ≤ m) → k (.d (.int m))
  | _ => False
def minK : KC := fun xs k => match xs with
  | [.list ys] => ∃ ns : List Int, ys = ns.map PyData.int ∧ 0 < ns.length ∧ ∀ m, m ∈ ns → (∀ y, y ∈ ns → m ≤ y) → k (.d (.int m))
  | _ => False
def allK : KC := fun xs k => match xs with
  | [.list ys] => ∃ bs : List Bool, ys = bs.map PyData.bool ∧ k (.d (.bool (bs.all id)))
  | _ => False
def anyK : KC := fun xs k => match xs with
  | [.list ys] => ∃ bs : List Bool, ys = bs.map PyData.bool ∧ k (.d (.bool (bs.any id)))
  | _ => False
section
variable {K : PySem.W.Frag}
theorem cd_sum : CallD (rSumU K) sumK := fun xs vs δ σ O P H Q' Q I a q k => by
  unfold sumK at q
  split at q
  · obtain _ | ⟨a, _ | _⟩ := a
    obtain ⟨b, vs, rfl, hr, ha⟩ := a.lst
    obtain ⟨ns, rfl, q⟩ := q
    cases dpa_ints_inv ha
    exact .inl ⟨b, ns, rfl, .inl hr, k _ _ O H (.dat I (.int _)) .refl q⟩
  · obtain _ | ⟨a, _ | _⟩ := a
    obtain ⟨b, vs, rfl, hr, ha, _⟩ := a.tup
    obtain ⟨ns, rfl, q⟩ := q
    cases dpa_ints_inv ha
    exact .inr ⟨b, ns, rfl, .inl hr, k _ _ O H (.dat I (.int _)) .refl q⟩
  · exact q.elim
theorem cd_max : CallD (rMax K) maxK := fun xs vs δ σ O P H Q' Q I a q k => by
  unfold maxK at q
  split at q
  · obtain _ | ⟨a, _ | _⟩ := a
    obtain ⟨b, vs, rfl, hr, ha⟩ := a.lst
    obtain ⟨ns, rfl, hn, q⟩ := q
    cases dpa_ints_inv ha
    exact ⟨b, ns, rfl, .inl hr, hn, fun m h1 h2 => k _ _ O H (.dat I (.int _)) .refl (q m h1 h2)⟩
  · exact q.elim
theorem cd_min : CallD (rMin K) minK := fun xs vs δ σ O P H Q' Q I a q k => by
  unfold minK at q
  split at q
  · obtain _ | ⟨a, _ | _⟩ := a
    obtain ⟨b, vs, rfl, hr, ha⟩ := a.lst
    obtain ⟨ns, rfl, hn, q⟩ := q
    cases dpa_ints_inv ha
    exact ⟨b, ns, rfl, .inl hr, hn, fun m h1 h2 => k _ _ O H (.dat I (.int _)) .refl (q m h1 h2)⟩
  · exact q.elim
theorem cd_all : CallD (rAll K) allK := fun xs vs δ σ O P H Q' Q I a q k => by
  unfold allK at q
  split at q
  · obtain _ | ⟨a, _ | _⟩ := a
    obtain ⟨b, vs, rfl, hr, ha⟩ := a.lst
    obtain ⟨ns, rfl, q⟩ := q
    cases dpa_bools_inv ha
    exact ⟨b, ns, rfl, .inl hr, k _ _ O H (.dat I (.bl _)) .refl q⟩
  · exact q.elim
theorem cd_any : CallD (rAny K) anyK := fun xs vs δ σ O P H Q' Q I a q k => by
  unfold anyK at q
  split at q
  · obtain _ | ⟨a, _ | _⟩ := a
    obtain ⟨b, vs, rfl, hr, ha⟩ := a.lst
    obtain ⟨ns, rfl, q⟩ := q
    cases dpa_bools_inv ha
    exact ⟨b, ns, rfl, .inl hr, k _ _ O H (.dat I (.bl _)) .refl q⟩
  · exact q.elim
def listK : KC := fun xs k => match xs with
  | [.list ys] => k (.f ys)
  | [.tuple ys] => k (.f ys)
  | _ => False
def tupleK : KC := fun xs k => match xs with
  | [.list ys] => k (.d (.tuple ys))
  | [.tuple ys] => k (.d (.tuple ys))
  | _ => False
theorem cd_list : CallD (fun xs H Q => ∃ p ys, xs = [.ref p] ∧ (SqL K H p ys ∨ SqT K H p ys) ∧ ∀ l, H l = none → Q (.ref l) (upd H l (.lst ys))) listK := fun xs vs δ σ O P H Q' Q I a q k => by
  unfold listK at q
  split at q
  · obtain _ | ⟨a, _ | _⟩ := a
    obtain ⟨b, vs, rfl, hr, ha⟩ := a.lst
    exact ⟨b, vs, rfl, .inl (.inl hr), fun p np => k _ _ (p :: O) _ (.newl I np ha) (.newo np) q⟩
  · obtain _ | ⟨a, _ | _⟩ := a
    obtain ⟨b, vs, rfl, hr, ha, _⟩ := a.tup
    exact ⟨b, vs, rfl, .inr (.inl hr), fun p np => k _ _ (p :: O) _ (.newl I np ha) (.newo np) q⟩
  · exact q.elim
theorem cd_tuple : CallD (fun xs H Q => ∃ p ys, xs = [.ref p] ∧ ((SqL K H p ys ∧ ∀ l, H l = none → Q (.ref l) (upd H l (.tup ys))) ∨ (SqT K H p ys ∧ Q (.ref p) H))) tupleK := fun xs vs δ σ O P H Q' Q I a q k => by
  unfold tupleK at q
  split at q
  · obtain _ | ⟨a, _ | _⟩ := a
    obtain ⟨b, vs, rfl, hr, ha⟩ := a.lst
    exact ⟨b, vs, rfl, .inl ⟨.inl hr, fun p np => k _ _ O _ (.newt I np ha) (.newd np) q⟩⟩
  · obtain _ | ⟨a, _ | _⟩ := a
    obtain ⟨b, vs, rfl, hr, ha, d⟩ := a.tup
    exact ⟨b, vs, rfl, .inr ⟨.inl hr, k _ _ O H (.dat I d) .refl q⟩⟩
  · exact q.elim
end
/-- divmod of ints of any size, by one that is not too great -/
def divmodK : KC := fun xs k => match xs with
  | [.int i, .int j] => CDivW i j ∧ k (.d (.tuple [.int (i / j), .int (i % j)]))
  | _ => False
theorem cd_divmod : CallD (fun xs H Q => ∃ i j, xs = [.int i, .int j] ∧ CDivP i j ∧ ∀ p, H p = none → Q (.ref p) (upd H p (.tup [.int (i / j), .int (i % j)]))) divmodK := fun xs vs δ σ O P H Q' Q I a q k => by
  unfold divmodK at q
  split at q
  · obtain _ | ⟨a, _ | ⟨b, _ | _⟩⟩ := a
    cases a.int; cases b.int
    exact ⟨_, _, rfl, ⟨q.1.1, PyProof.noPylong_of_log2 q.1.2⟩, fun p np => k _ _ O _ (.newt I np (.cons (.int _) (.cons (.int _) .nil))) (.newd np) q.2⟩
  · exact q.elim
def strK : KC := fun xs k => match xs with
  | [.int i] => i.natAbs.log2 < 1920 ∧ k (.d (.str (toString i)))
  | _ => False
theorem cd_str : CallD (fun xs H Q => ∃ i, xs = [.int i] ∧ i.natAbs.log2 < 1920 ∧ Q (.str (toString i)) H) strK := fun xs vs δ σ O P H Q' Q I a q k => by
  unfold strK at q
  split at q
  · obtain _ | ⟨a, _ | _⟩ := a
    cases a.int
    exact ⟨_, rfl, q.1, k _ _ O H (.dat I (.str _)) .refl q.2⟩
  · exact q.elim
end DL

namespace DL
open PySem L2
/-! ## 7. isinstance of data and built-in classes -/
def tyN : PyData → String
  | .none => "NoneType"
  | .bool _ => "bool"
  | .int _ => "int"
  | .str _ => "str"
  | .list _ => "list"
  | .tuple _ => "tuple"
  | .dict _ => "dict"
def isiB (T : String) (x : PyData) : Bool := match x with
  | .bool _ => T == "bool" || T == "int"
  | .int _ => T == "int"
  | .str _ => T == "str"
  | .list _ => T == "list"
  | .tuple _ => T == "tuple"
  | _ => false
/-- an exception is told apart elsewhere -/
def isD : PyData → Bool
  | .dict _ => true
  | _ => false
theorem isD_n : isD .none = false := rfl
theorem isD_b (b : Bool) : isD (.bool b) = false := rfl
theorem isD_i (i : Int) : isD (.int i) = false := rfl
theorem isD_s (i : Str) : isD (.str i) = false := rfl
theorem isD_l (i : List PyData) : isD (.list i) = false := rfl
theorem isD_t (i : List PyData) : isD (.tuple i) = false := rfl
def okTy (T : String) : Bool := T == "bool" || T == "int" || T == "str" || T == "list" || T == "tuple"
section
variable {K : PySem.W.Frag}
theorem tyx_of {H : Hp} {v : V} {x : PyData} (h : Dq H v x) (hd : isD x = false) : TyX K H v (.type (tyN x)) := by
  cases h with
  | non => exact .base .non
  | bl b => exact .base (.bl b)
  | int i => exact .base (.int i)
  | str s => exact .base (.str s)
  | lst h1 h2 =>
    rcases h1 with h1 | ⟨o, h1⟩
    · exact .base (.lst h1)
    · exact .base (.frz h1)
  | tup h1 h2 =>
    rcases h1 with h1 | ⟨o, h1⟩
    · exact .base (.tup h1)
    · exact .fTuple h1
  | exc0 _ => cases hd
  | fn _ => cases hd
  | st _ _ => cases hd
  | exc _ _ _ => cases hd
theorem kit_of {H : Hp} {v : V} {x : PyData} (h : Dq H v x) {T : String} (hT : okTy T = true) : PySem.W.kitOne K (.type (tyN x)) (.type T) = some (isiB T x) := by
  have five : T = "bool" ∨ T = "int" ∨ T = "str" ∨ T = "list" ∨ T = "tuple" := by
    simp only [okTy, Bool.or_eq_true, beq_iff_eq] at hT
    rcases hT with (((h | h) | h) | h) | h <;> simp [h]
  refine kit_ty ?_
  cases h <;> rcases five with rfl | rfl | rfl | rfl | rfl <;> simp only [tyN, isiB] <;> decide +kernel
theorem kitAny_of {H : Hp} {v : V} {x : PyData} (h : Dq H v x) : ∀ {Ts : List String}, Ts.all okTy = true → PySem.W.kitAny K (.type (tyN x)) (Ts.map Value.type) = some (Ts.any fun T => isiB T x)
  | [], _ => rfl
  | T :: Ts, hT => by
    simp only [List.all_cons, Bool.and_eq_true] at hT
    refine kitAny_cons (b := isiB T x) (kit_of h hT.1) (fun e => ?_) (fun e => ?_)
    · rw [kitAny_of h hT.2, List.any_cons, e, Bool.false_or]
    · rw [List.any_cons, e, Bool.true_or]
theorem clsv_of : ∀ (Ts : List String), Paired ClsV (Ts.map V.ty) (Ts.map Value.type)
  | [] => .nil
  | T :: Ts => .cons (.ty T) (clsv_of Ts)
end
section
variable {X : Cx} {E : XS} {e c : Expr} {es : List Expr} {pos : Pos} {oa : TO'}
/-- names of built-in classes -/
def CN (X : Cx) (es : List Expr) (Ts : List String) : Prop := ∃ ta, PA X es ta ∧ ∀ (σ : L2.St) (H : Hp) (Q : List V → Hp → Prop), Q (Ts.map V.ty) H → ta σ H Q
theorem cn_nil : CN X [] [] := ⟨_, pa_nil, fun _ _ _ h => h⟩
theorem cn_cons {x : Str} {T : String} {p : Pos} {Ts : List String} (hg : Gl X x) (hm : X.mg x = none) (hv : bootBuiltins x = some (.type T)) (h : CN X es Ts) (hn : x ≠ "__name__" := by decide) (hd : (x == ("__debug__" : Str)) = false := by decide)
    (hs : starEach (.Name x p :: es) X.env = (false, eval (.Name x p) X.env) :: starEach es X.env := by rfl) : CN X (.Name x p :: es) (T :: Ts) := by
  obtain ⟨t, pt, q⟩ := h
  exact ⟨_, pa_cons (pe_bltn hg hm hv (v := .ty T) rfl hn hd) pt hs, fun σ H Q h => q σ H _ h⟩
def dIsi (Ts : List String) (ta : TO') : TD := fun δ R Q => ta δ R fun o δ1 => match o.res δ1 with
  | some x => isD x = false ∧ Q (.d (.bool (Ts.any fun T => isiB T x))) δ1
  | none => False
theorem de_isi {T : String} {p : Pos} (hg : Gl X "isinstance") (hm : X.mg "isinstance" = none) (ha : DA X E e oa) (hc : CN X [c] [T]) (hT : okTy T = true := by rfl)
    (he : starEach (e :: [c]) X.env = (false, eval e X.env) :: starEach [c] X.env := by rfl) (hpl : (backTo pos (starEach [c] X.env)).any (·.1) = false := by rfl) : DE X E (.Call (.Name "isinstance" p) [e, c] [] pos) (dIsi [T] oa) := by
  obtain ⟨t, pt, q⟩ := ha.ex
  obtain ⟨tc, pc, qc⟩ := hc
  refine ⟨_, pe_callB call_isi hg hm (by decide +kernel) (pa_cons pt pc he) (he := he) (hpl := hpl), fun δ σ O P H R Q' Q I w h k => ?_⟩
  refine q δ σ O P H R _ _ I w h fun o v δ1 O1 H1 R1 a1 s1 h1 => ?_
  refine qc σ H1 _ ?_
  split at h1
  · rename_i x e1
    have l := (a1.lq R1 e1).full
    obtain ⟨hd, h1⟩ := h1
    refine ⟨v, .ty T, _, _, _, rfl, .ty T, tyx_of l hd, kit_of l hT, ?_⟩
    have e2 : ([T].any fun T => isiB T x) = isiB T x := by simp
    rw [e2] at h1
    exact k _ _ δ1 O1 H1 (.dat R1 (.bl _)) s1 h1
  · exact h1.elim
theorem de_isiT {Ts : List String} {p p' : Pos} {x1} (hg : Gl X "isinstance") (hm : X.mg "isinstance" = none) (ha : DA X E e oa) (hc : CN X es Ts) (hT : Ts.all okTy = true := by rfl) (hl : Ts.length ≤ 100 := by decide)
    (he : starEach (e :: [.Tuple es x1 p']) X.env = (false, eval e X.env) :: starEach [.Tuple es x1 p'] X.env := by rfl) (he2 : starEach [.Tuple es x1 p'] X.env = (false, eval (.Tuple es x1 p') X.env) :: starEach [] X.env := by rfl) (hpl : (backTo pos (starEach [.Tuple es x1 p'] X.env)).any (·.1) = false := by rfl) : DE X E (.Call (.Name "isinstance" p) [e, .Tuple es x1 p'] [] pos) (dIsi Ts oa) := by
  obtain ⟨t, pt, q⟩ := ha.ex
  obtain ⟨tc, pc, qc⟩ := hc
  refine ⟨_, pe_callB call_isiT hg hm (by decide +kernel) (pa_cons pt (pa_cons (pe_tup pc) pa_nil he2) he) (he := he) (hpl := hpl), fun δ σ O P H R Q' Q I w h k => ?_⟩
  refine q δ σ O P H R _ _ I w h fun o v δ1 O1 H1 R1 a1 s1 h1 => ?_
  refine qc σ H1 _ ⟨by rw [List.length_map]; exact Nat.le_trans hl (by decide), fun tp ntp => ?_⟩
  split at h1
  · rename_i x e1
    have l := (a1.lq R1 e1).full
    have l' : Dq (upd H1 tp (.tup (Ts.map V.ty))) v x := dp_le (fun a o h => by rw [upd_ne (ne_of_none h ntp)]; exact h) _ _ l
    obtain ⟨hd, h1⟩ := h1
    refine ⟨v, tp, _, _, _, _, rfl, upd_same, clsv_of Ts, tyx_of l' hd, kitAny_of l' hT, ?_⟩
    exact k _ _ δ1 O1 _ (.dat (R1.newd ntp) (.bl _)) (s1.trans (.newd ntp)) h1
  · exact h1.elim
end

/-! ## 8. Contracts of defs -/
inductive Ag where
  | d (x : PyData)
  | o (xs : List PyData)
abbrev RXc := Addr → List (Str × PyData) → Prop
/-- a def over data: its arguments (data, or a list that it may change), what is wished of errors, what is wanted of its result and of the changed list -/
abbrev DSp := List Ag → RXc → (Rs → List (List PyData) → Prop) → Prop
def AgRel (Z : List Addr) (H : Hp) : List Ag → List V → List Addr → Prop
  | [], [], [] => True
  | .d x :: as, v :: vs, ms => Dq (frz Z H) v x ∧ AgRel Z H as vs ms
  | .o xs :: as, v :: vs, m :: ms => v = .ref m ∧ (∃ ws, H m = some (.lst ws) ∧ DqAll (frz Z H) ws xs) ∧ AgRel Z H as vs ms
  | _, _, _ => False
theorem AgRel.len {Z : List Addr} {H : Hp} : ∀ {as : List Ag} {vs : List V} {ms : List Addr}, AgRel Z H as vs ms → vs.length = as.length
  | [], [], [], _ => rfl
  | [], _ :: _, _, h => by simp [AgRel] at h
  | [], [], _ :: _, h => by simp [AgRel] at h
  | .d x :: as, [], _, h => by simp [AgRel] at h
  | .d x :: as, v :: vs, ms, h => by simp only [AgRel] at h; rw [List.length_cons, List.length_cons, AgRel.len h.2]
  | .o x :: as, [], _, h => by simp [AgRel] at h
  | .o x :: as, v :: vs, [], h => by simp [AgRel] at h
  | .o x :: as, v :: vs, m :: ms, h => by simp only [AgRel] at h; rw [List.length_cons, List.length_cons, AgRel.len h.2.2]
def Brw (Z : List Addr) (H : Hp) (ms : List Addr) (ys : List (List PyData)) : Prop := Paired (fun m y => ∃ vs, H m = some (.lst vs) ∧ DqAll (frz Z H) vs y) ms ys
def Ret (r : Rs) (v : V) (ys : List (List PyData)) (ms P : List Addr) (H H' : Hp) : Prop := match r with
  | .d x => Dq (frz (ms ++ P) H') v x ∧ Brw (ms ++ P) H' ms ys
  | .f xs => ∃ p vs, v = .ref p ∧ p ∉ ms ∧ p ∉ P ∧ H p = none ∧ H' p = some (.lst vs) ∧ DqAll (frz ((p :: ms) ++ P) H') vs xs ∧ Brw ((p :: ms) ++ P) H' ms ys
  | .p xs zs => ∃ t p q vs ws, v = .ref t ∧ p ≠ q ∧ p ∉ ms ∧ q ∉ ms ∧ p ∉ P ∧ q ∉ P ∧ H p = none ∧ H q = none ∧ H' p = some (.lst vs) ∧ H' q = some (.lst ws) ∧ DqAll (frz ((p :: q :: ms) ++ P) H') vs xs ∧ DqAll (frz ((p :: q :: ms) ++ P) H') ws zs ∧
      Rd (frz ((p :: q :: ms) ++ P) H') t (.tup [.ref p, .ref q]) ∧ Brw ((p :: q :: ms) ++ P) H' ms ys
def spOf (n : Nat) (S : DSp) : Sp := fun vs H Q E => ∃ (as : List Ag) (ms P : List Addr) (Q' : Rs → List (List PyData) → Prop) (R : RXc), as.length = n ∧ ms.length ≤ 1 ∧ AgRel (ms ++ P) H as vs ms ∧ (∀ a, a ∈ ms ++ P → H a ≠ none) ∧ (∀ a ∈ ms, a ∉ P) ∧ S as R Q' ∧
  (∀ r v ys H', Ret r v ys ms P H H' → Stp ms H ms H' → Q' r ys → Q v H') ∧ (∀ C dd xs H', Stp ms H ms H' → ExcAt (ms ++ P) H' dd xs → R C xs → E (.ref C) dd H')
theorem spOf.len {n : Nat} {S : DSp} {vs : List V} {H : Hp} {Q : VK} {E : XK} (h : spOf n S vs H Q E) : vs.length = n := by
  obtain ⟨as, ms, P, Q', R, h1, _, h2, _⟩ := h
  rw [h2.len, h1]
/-- behind a call that changed at most the list at a (slot i) -/
theorem frz_congr {Z Z' : List Addr} {H : Hp} (h : ∀ a, a ∈ Z ↔ a ∈ Z') : frz Z H = frz Z' H := by
  funext a
  unfold frz
  by_cases m : a ∈ Z
  · rw [if_pos m, if_pos ((h a).mp m)]
  · rw [if_neg m, if_neg fun z => m ((h a).mpr z)]
section
variable {δ : DSt} {σ : L2.St} {O O2 P : List Addr} {H H' : Hp}
theorem back_le (ms : List Addr) (sub' : ∀ a ∈ ms, a ∈ O) (st : Stp ms H ms H') (new : ∀ a ∈ O2, a ∈ O ∨ H a = none) : Le (frz (O ++ P) H) (frz (O2 ++ P) H') := fun a o h => by
  obtain ⟨n, h⟩ := frz_some.mp h
  simp only [List.mem_append, not_or] at n
  refine frz_some.mpr ⟨?_, (st.keep a o h fun z => n.1 (sub' a z)).1⟩
  simp only [List.mem_append, not_or]
  refine ⟨fun z => ?_, n.2⟩
  rcases new a z with z | z
  · exact n.1 z
  · rw [h] at z; cases z
theorem Rel.back0 (R : Rel δ σ O P H) (st : Stp [] H [] H') (sub : ∀ a ∈ O, a ∈ O2) (new : ∀ a ∈ O2, a ∈ O ∨ H a = none) (trk : ∀ a ∈ O2, H' a ≠ none) (dis : ∀ a ∈ O2, a ∉ P) : Rel δ σ O2 P H' where
  len := R.len
  dat := fun i x e => let ⟨v, a, b⟩ := R.dat i x e; ⟨v, a, dp_le (back_le [] (fun _ z => by cases z) st new) _ _ b⟩
  own := fun i m xs e => by
    obtain ⟨a, vs, h1, h2, h3, h4, h5⟩ := R.own i m xs e
    exact ⟨a, vs, h1, h2, sub a h3, (st.keep a _ h4 (by simp)).1, dpa_le (back_le [] (fun _ z => by cases z) st new) _ _ h5⟩
  inj := R.inj
  trk := fun a m => by
    rcases List.mem_append.mp m with m | m
    · exact trk a m
    · exact st.there a (R.trk a (List.mem_append_right _ m))
  dis := dis
theorem Rel.back1 {i : Nat} {m : Option Addr} {xs ys : List PyData} {a : Addr} {ws : List V} (R : Rel δ σ O P H) (e : δ[i]? = some (.o m xs)) (ea : σ[i]? = some (some (.ref a))) (st : Stp [a] H [a] H') (sub : ∀ a ∈ O, a ∈ O2) (new : ∀ a ∈ O2, a ∈ O ∨ H a = none)
    (trk : ∀ a ∈ O2, H' a ≠ none) (dis : ∀ a ∈ O2, a ∉ P) (hw : H' a = some (.lst ws)) (h : DqAll (frz (O2 ++ P) H') ws ys) : Rel (δ.set i (.o m ys)) σ O2 P H' := by
  obtain ⟨a', vs, h1, h2, h3, h4, h5⟩ := R.own i m xs e
  rw [ea] at h1; cases h1
  have hi : i < δ.length := (List.getElem?_eq_some_iff.mp e).1
  have hle : Le (frz (O ++ P) H) (frz (O2 ++ P) H') := back_le [a] (fun b z => by simp only [List.mem_singleton] at z; rw [z]; exact h3) st new
  refine ⟨by rw [List.length_set]; exact R.len, fun j x ej => ?_, fun j n zs ej => ?_, fun j k n n' zs zs' b ej ek sj sk => ?_, fun b mb => ?_, dis⟩
  · have hj : j ≠ i := fun z => by subst z; rw [List.getElem?_set_self hi] at ej; cases ej
    rw [List.getElem?_set_ne (Ne.symm hj)] at ej
    obtain ⟨v, q1, q2⟩ := R.dat j x ej
    exact ⟨v, q1, dp_le hle _ _ q2⟩
  · by_cases hj : j = i
    · subst hj
      rw [List.getElem?_set_self hi] at ej
      cases ej
      exact ⟨a, ws, ea, h2, sub a h3, hw, h⟩
    · rw [List.getElem?_set_ne (Ne.symm hj)] at ej
      obtain ⟨b, us, q1, q2, q3, q4, q5⟩ := R.own j n zs ej
      have nb : b ≠ a := fun z => hj (R.inj j i n m zs xs b ej e q1 (by rw [z]; exact ea))
      exact ⟨b, us, q1, q2, sub b q3, (st.keep b _ q4 (by simpa using nb)).1, dpa_le hle _ _ q5⟩
  · have conv : ∀ (j : Nat) (n : Option Addr) (zs : List PyData), (δ.set i (.o m ys))[j]? = some (.o n zs) → ∃ (n' : Option Addr) (zs' : List PyData), δ[j]? = some (.o n' zs') := fun j n zs ej => by
      by_cases hj : j = i
      · subst hj; exact ⟨_, _, e⟩
      · rw [List.getElem?_set_ne (Ne.symm hj)] at ej; exact ⟨_, _, ej⟩
    obtain ⟨_, _, e1⟩ := conv j n zs ej
    obtain ⟨_, _, e2⟩ := conv k n' zs' ek
    exact R.inj j k _ _ _ _ b e1 e2 sj sk
  · rcases List.mem_append.mp mb with mb | mb
    · exact trk b mb
    · exact st.there b (R.trk b (List.mem_append_right _ mb))
end
/-- the arguments as the callee takes them: a name's own list goes as a list that it may change -/
def agsOf : List Opd → DSt → Option (List Ag)
  | [], _ => some []
  | .x x :: os, δ => match agsOf os δ with
    | some as => some (.d x :: as)
    | none => none
  | .v i :: os, δ => match gs δ i, agsOf os δ with
    | .o _ xs, some as => some (.o xs :: as)
    | _, _ => none
def vix : List Opd → List Nat
  | [] => []
  | .x _ :: os => vix os
  | .v i :: os => i :: vix os
def putB (is : List Nat) (ys : List (List PyData)) (δ : DSt) : DSt := match is, ys with
  | [i], [y] => match gs δ i with
    | .o m _ => ss δ i (.o m y)
    | _ => δ
  | _, _ => δ
def adr (σ : L2.St) (i : Nat) : Addr := match σ[i]? with
  | some (some (.ref a)) => a
  | _ => 0
theorem agrel_of {δ : DSt} {σ : L2.St} {O P Z : List Addr} {H : Hp} (R : Rel δ σ O P H) (hZ : frz (O ++ P) H = frz Z H) : ∀ {os : List Opd} {vs : List V} {as : List Ag}, AllAt os vs σ (O ++ P) H → agsOf os δ = some as → AgRel Z H as vs ((vix os).map (adr σ))
  | [], _, as, .nil, e => by cases e; trivial
  | .x x :: os, _, as, .cons h hs, e => by
    unfold agsOf at e
    split at e
    · rename_i as' e1
      cases e
      exact ⟨by rw [← hZ]; exact h, agrel_of (os := os) R hZ hs e1⟩
    · cases e
  | .v i :: os, _, as, .cons (b := v) h hs, e => by
    unfold agsOf at e
    split at e
    · rename_i m xs as' e0 e1
      cases e
      obtain ⟨a, ws, h1, _, _, h4, h5⟩ := R.own i _ _ (gs_o e0)
      have h' : σ[i]? = some (some v) := h
      rw [h1] at h'; cases h'
      have ad : adr σ i = a := by unfold adr; rw [h1]
      refine ⟨by rw [ad], ⟨ws, by rw [ad]; exact h4, by rw [← hZ]; exact h5⟩, agrel_of R hZ hs e1⟩
    · cases e
theorem own_of {δ : DSt} : ∀ {os : List Opd} {as : List Ag}, agsOf os δ = some as → ∀ i ∈ vix os, ∃ m xs, gs δ i = .o m xs
  | [], _, _, i, h => by cases h
  | .x x :: os, as, e, i, h => by
    unfold agsOf at e
    split at e
    · rename_i as' e1
      exact own_of e1 i h
    · cases e
  | .v j :: os, as, e, i, h => by
    unfold agsOf at e
    split at e
    · rename_i m xs as' e0 e1
      rcases List.mem_cons.mp h with h | h
      · subst h; exact ⟨_, _, e0⟩
      · exact own_of e1 i h
    · cases e
section
variable {X : Cx} {E : XS} {e : Expr} {es : List Expr} {pos p : Pos} {ta : TAd} {CX : CXT} {k n : Nat} {f : Addr} {fd : FuncData} {ps : List Str} {S : DSp} {x : Str}
/-- a call of an own def -/
def dCall (n : Nat) (S : DSp) (ta : TAd) : TD := fun δ R Q => ta δ R fun os δ1 => match agsOf os δ1 with
  | some as => as.length = n ∧ (vix os).length ≤ 1 ∧ S as (fun C xs => vix os = [] ∧ R C xs δ1) fun r ys => Q r (putB (vix os) ys δ1)
  | none => False
theorem call_sound {δ : DSt} {σ : L2.St} {O P : List Addr} {H : Hp} {R : RX} {Q' : Rs → DSt → Prop} {Q : VK} {os : List Opd} {vs : List V} {as : List Ag} (I : Rel δ σ O P H) (w : ExW E O P H R) (ha : AllAt os vs σ (O ++ P) H) (eo : agsOf os δ = some as) (hn : as.length = n) (h1 : (vix os).length ≤ 1)
    (hS : S as (fun C xs => vix os = [] ∧ R C xs δ) fun r ys => Q' r (putB (vix os) ys δ)) (kk : ∀ r v δ' O' H', Got r v δ' σ O' P H' → Stp O H O' H' → Q' r δ' → Q v H') : spOf n S vs H Q (E σ) := by
  have hown := own_of eo
  have hsub : ∀ a ∈ (vix os).map (adr σ), a ∈ O := fun a m => by
    obtain ⟨i, hi, rfl⟩ := List.mem_map.mp m
    obtain ⟨m', xs, e0⟩ := hown i hi
    obtain ⟨b, ws, q1, _, q3, _⟩ := I.own i _ _ (gs_o e0)
    have ad : adr σ i = b := by unfold adr; rw [q1]
    rw [ad]; exact q3
  have hmem : ∀ a, a ∈ O ++ P ↔ a ∈ (vix os).map (adr σ) ++ (O.filter (fun x => decide (x ∉ (vix os).map (adr σ))) ++ P) := fun a => by
    by_cases hm : a ∈ (vix os).map (adr σ)
    · constructor
      · intro _; exact List.mem_append_left _ hm
      · intro _; exact List.mem_append_left _ (hsub a hm)
    · constructor
      · intro z
        refine List.mem_append_right _ ?_
        rcases List.mem_append.mp z with z | z
        · exact List.mem_append_left _ (List.mem_filter.mpr ⟨z, decide_eq_true hm⟩)
        · exact List.mem_append_right _ z
      · intro z
        rcases List.mem_append.mp z with z | z
        · exact (hm z).elim
        · rcases List.mem_append.mp z with z | z
          · exact List.mem_append_left _ (List.mem_filter.mp z).1
          · exact List.mem_append_right _ z
  have hZ : frz (O ++ P) H = frz ((vix os).map (adr σ) ++ (O.filter (fun x => decide (x ∉ (vix os).map (adr σ))) ++ P)) H := frz_congr hmem
  refine ⟨as, (vix os).map (adr σ), O.filter (fun x => decide (x ∉ (vix os).map (adr σ))) ++ P, _, _, hn, by rw [List.length_map]; exact h1, agrel_of I hZ ha eo, fun a m => I.trk a ((hmem a).mpr m), fun a m z => ?_, hS, fun r v ys H' ret st q => ?_, fun C dd xs H' st ex r => ?_⟩
  · rcases List.mem_append.mp z with z | z
    · exact of_decide_eq_true (List.mem_filter.mp z).2 m
    · exact I.dis a (hsub a m) z
  · -- the way back
    have key : ∀ (O2 : List Addr), (∀ a ∈ O, a ∈ O2) → (∀ a ∈ O2, a ∈ O ∨ H a = none) → (∀ a ∈ O2, H' a ≠ none) → (∀ a ∈ O2, a ∉ P) → Brw (O2 ++ P) H' ((vix os).map (adr σ)) ys → Rel (putB (vix os) ys δ) σ O2 P H' := by
      intro O2 sub new trk dis b
      cases hv : vix os with
      | nil =>
        rw [hv] at st b
        exact I.back0 st sub new trk dis
      | cons i r =>
        have hr : r = [] := by
          rw [hv] at h1
          cases r with
          | nil => rfl
          | cons _ _ => simp at h1
        subst hr
        rw [hv] at st b
        obtain ⟨m', xs, e0⟩ := hown i (by rw [hv]; exact List.mem_cons_self)
        obtain ⟨a, ws, q1, _, q3, _⟩ := I.own i _ _ (gs_o e0)
        have ad : adr σ i = a := by unfold adr; rw [q1]
        have b' : Brw (O2 ++ P) H' [adr σ i] ys := b
        rw [ad] at b'
        have st' : Stp [adr σ i] H [adr σ i] H' := st
        rw [ad] at st'
        obtain _ | ⟨⟨ws', hw, hd⟩, _ | _⟩ := b'
        show Rel (match gs δ i with
          | .o m _ => ss δ i (.o m _)
          | _ => δ) σ O2 P H'
        rw [e0]
        show Rel (ss δ i (.o m' _)) σ O2 P H'
        rw [ss_eq]
        exact I.back1 (gs_o e0) q1 st' sub new trk dis hw hd
    have stp : ∀ (O2 : List Addr), (∀ a ∈ O2, a ∈ O ∨ H a = none) → Stp O H O2 H' := fun O2 new => ⟨fun a o h n => ⟨(st.keep a o h fun z => n (hsub a z)).1, fun z => by
      rcases new a z with z | z
      · exact n z
      · rw [h] at z; cases z⟩, st.there⟩
    cases r with
    | d y =>
      obtain ⟨d1, b1⟩ := ret
      have hZ' : frz (O ++ P) H' = frz ((vix os).map (adr σ) ++ (O.filter (fun x => decide (x ∉ (vix os).map (adr σ))) ++ P)) H' := frz_congr hmem
      rw [← hZ'] at d1
      have b2 : Brw (O ++ P) H' ((vix os).map (adr σ)) ys := by
        unfold Brw at b1 ⊢
        rw [hZ']
        exact b1
      refine kk _ v _ O H' (.dat (key O (fun _ z => z) (fun _ z => .inl z) (fun a z => st.there a (I.trk a (List.mem_append_left _ z))) I.dis b2) d1) (stp O fun _ z => .inl z) q
    | f ws =>
      obtain ⟨pn, vs', rfl, n1, n2, n3, hp, da, b1⟩ := ret
      have hmem' : ∀ a, a ∈ (pn :: O) ++ P ↔ a ∈ (pn :: (vix os).map (adr σ)) ++ (O.filter (fun x => decide (x ∉ (vix os).map (adr σ))) ++ P) := fun a => by
        simp only [List.cons_append, List.mem_cons]
        exact or_congr_right (hmem a)
      have hZ' : frz ((pn :: O) ++ P) H' = frz ((pn :: (vix os).map (adr σ)) ++ (O.filter (fun x => decide (x ∉ (vix os).map (adr σ))) ++ P)) H' := frz_congr hmem'
      have b2 : Brw ((pn :: O) ++ P) H' ((vix os).map (adr σ)) ys := by
        unfold Brw at b1 ⊢
        rw [hZ']
        exact b1
      have nO : pn ∉ O := fun z => I.trk pn (List.mem_append_left _ z) n3
      have nP : pn ∉ P := fun z => I.trk pn (List.mem_append_right _ z) n3
      have b3 : Brw (O ++ P) H' ((vix os).map (adr σ)) ys := Paired.mapP b2 fun m y ⟨vs, z1, z2⟩ => ⟨vs, z1, dpa_le frz_drop _ _ z2⟩
      have new2 : ∀ a ∈ pn :: O, a ∈ O ∨ H a = none := fun a z => by
        rcases List.mem_cons.mp z with z | z
        · rw [z]; exact .inr n3
        · exact .inl z
      have trk2 : ∀ a ∈ pn :: O, H' a ≠ none := fun a z => by
        rcases List.mem_cons.mp z with z | z
        · rw [z, hp]; exact fun q => by cases q
        · exact st.there a (I.trk a (List.mem_append_left _ z))
      have dis2 : ∀ a ∈ pn :: O, a ∉ P := fun a z => by
        rcases List.mem_cons.mp z with z | z
        · rw [z]; exact nP
        · exact I.dis a z
      refine kk (.f ws) _ _ (pn :: O) H' ⟨pn, vs', O, rfl, rfl, nO, nP, key O (fun _ z => z) (fun _ z => .inl z) (fun a z => st.there a (I.trk a (List.mem_append_left _ z))) I.dis b3, key (pn :: O) (fun _ z => List.mem_cons_of_mem _ z) new2 trk2 dis2 b2, hp, by rw [hZ']; exact da⟩ (stp _ new2) q
    | p xs zs =>
      obtain ⟨tn, pn, qn, vs', ws', rfl, pq, n1, n2, m1, m2, f1, f2, hp, hq, d1, d2, dt, b1⟩ := ret
      have hmem' : ∀ a, a ∈ (pn :: qn :: O) ++ P ↔ a ∈ (pn :: qn :: (vix os).map (adr σ)) ++ (O.filter (fun x => decide (x ∉ (vix os).map (adr σ))) ++ P) := fun a => by
        simp only [List.cons_append, List.mem_cons]
        exact or_congr_right (or_congr_right (hmem a))
      have hZ' : frz ((pn :: qn :: O) ++ P) H' = frz ((pn :: qn :: (vix os).map (adr σ)) ++ (O.filter (fun x => decide (x ∉ (vix os).map (adr σ))) ++ P)) H' := frz_congr hmem'
      have b2 : Brw ((pn :: qn :: O) ++ P) H' ((vix os).map (adr σ)) ys := by
        unfold Brw at b1 ⊢
        rw [hZ']
        exact b1
      have none_in : ∀ a, H a = none → a ∉ O ∧ a ∉ P := fun a f => ⟨fun z => I.trk a (List.mem_append_left _ z) f, fun z => I.trk a (List.mem_append_right _ z) f⟩
      have le2 : Le (frz ((pn :: qn :: O) ++ P) H') (frz (O ++ P) H') := fun a o h => by
        obtain ⟨n, h⟩ := frz_some.mp h
        refine frz_some.mpr ⟨fun m => n ?_, h⟩
        simp only [List.cons_append, List.mem_cons]
        exact .inr (.inr m)
      have b3 : Brw (O ++ P) H' ((vix os).map (adr σ)) ys := Paired.mapP b2 fun m y ⟨vs, z1, z2⟩ => ⟨vs, z1, dpa_le le2 _ _ z2⟩
      have new2 : ∀ a ∈ pn :: qn :: O, a ∈ O ∨ H a = none := fun a z => by
        rcases List.mem_cons.mp z with z | z
        · rw [z]; exact .inr f1
        · rcases List.mem_cons.mp z with z | z
          · rw [z]; exact .inr f2
          · exact .inl z
      have trk2 : ∀ a ∈ pn :: qn :: O, H' a ≠ none := fun a z => by
        rcases List.mem_cons.mp z with z | z
        · rw [z, hp]; exact fun q => by cases q
        · rcases List.mem_cons.mp z with z | z
          · rw [z, hq]; exact fun q => by cases q
          · exact st.there a (I.trk a (List.mem_append_left _ z))
      have dis2 : ∀ a ∈ pn :: qn :: O, a ∉ P := fun a z => by
        rcases List.mem_cons.mp z with z | z
        · rw [z]; exact (none_in _ f1).2
        · rcases List.mem_cons.mp z with z | z
          · rw [z]; exact (none_in _ f2).2
          · exact I.dis a z
      refine kk (.p xs zs) _ _ (pn :: qn :: O) H' ⟨tn, pn, qn, vs', ws', O, rfl, rfl, pq, (none_in _ f1).1, (none_in _ f2).1, (none_in _ f1).2, (none_in _ f2).2, key O (fun _ z => z) (fun _ z => .inl z) (fun a z => st.there a (I.trk a (List.mem_append_left _ z))) I.dis b3,
        key (pn :: qn :: O) (fun _ z => List.mem_cons_of_mem _ (List.mem_cons_of_mem _ z)) new2 trk2 dis2 b2, hp, hq, by rw [hZ']; exact d1, by rw [hZ']; exact d2, by rw [hZ']; exact dt⟩ (stp _ new2) q
  · obtain ⟨hv, r⟩ := r
    rw [hv] at st
    have st' : Stp O H O H' := ⟨fun a o h n => ⟨(st.keep a o h (by simp)).1, n⟩, st.there⟩
    have hZ' : frz (O ++ P) H' = frz ((vix os).map (adr σ) ++ (O.filter (fun x => decide (x ∉ (vix os).map (adr σ))) ++ P)) H' := frz_congr hmem
    refine w C dd xs δ σ O H' (I.back0 st (fun _ z => z) (fun _ z => .inl z) (fun a z => st.there a (I.trk a (List.mem_append_left _ z))) I.dis) st' ?_ r
    rcases ex with ex | ⟨d, fs, e1, e2, e3⟩
    · exact .inl ex
    · refine .inr ⟨d, fs, e1, e2, ?_⟩
      unfold FldsOk at e3 ⊢
      rw [hZ']
      exact e3
theorem de_call (F : FnOk X.prog X.w X.K X.mg X.base CX k f fd ps (spOf n S)) (hr : Room k X.A) (hg : Gl X x) (hm : X.mg x = some (.ref f)) (hk : PySem.W.keepIn X.K (.ref f) = true) (hb : Binds X.K fd ps []) (hx : ∀ σ, PassesAt CX X σ (E σ))
    (ha : DAs X E (e :: es) ta) (hdb : (x == ("__debug__" : Str)) = false := by decide) (he : starEach (e :: es) X.env = (false, eval e X.env) :: starEach es X.env := by rfl) (hpl : (backTo pos (starEach es X.env)).any (·.1) = false := by rfl) :
    DE X E (.Call (.Name x p) (e :: es) [] pos) (dCall n S ta) := by
  obtain ⟨t, pt, q⟩ := ha.ex
  refine ⟨_, pe_callS F hr hg hm hk hb hx pt hdb he hpl, fun δ σ O P H R Q' Q I w h k => ?_⟩
  refine q δ σ O P H R _ _ I w h fun os vs δ1 O1 H1 R1 a1 s1 h1 => ?_
  split at h1
  · rename_i as eo
    exact call_sound R1 (w.step s1) a1 eo h1.1 h1.2.1 h1.2.2 fun r v δ' O' H' g s q' => k r v δ' O' H' g (s1.trans s) q'
  · exact h1.elim
end
end DL

/-! list(zip(a, b)) over iterators of any kind -/
namespace PySem
open Sem (wp)
section
variable {prog : Program} {w : World} {A : Around} {E : Value → Shared → Prop} {s : Shared} {z TI TO i1 i2 : Addr} {fp1 fp2 : List Addr} {n1 n2 i : Nat} {P1 P2 : Nat → Value → Prop} {St1 St2 : Nat → Heap → Prop} {a1 a2 : Value}
theorem zh_next_item {T : Addr} {f : Bool} {oT : Obj} {Q : Value → Shared → Prop} (S : ZipSep2 z TI TO i1 i2 fp1 fp2) (D1 : Draws prog w A i1 fp1 n1 P1 St1) (D2 : Draws prog w A i2 fp2 n2 P2 St2)
    (hz : IsZipHeld s.heap z TI TO T f) (hT : s.heap.get? T = some oT) (hTI : IsTupOf2 s.heap TI (.ref i1) (.ref i2)) (st1 : St1 i s.heap) (st2 : St2 i s.heap) (hlt1 : i < n1) (hlt2 : i < n2)
    (hQ : ∀ x1 x2 h' tk, P1 i x1 → P2 i x2 → IsZipHeld h' z TI TO T true → St1 (i + 1) h' → St2 (i + 1) h' → IsTupOf2 h' s.heap.objs.size x1 x2 → h'.objs.size = s.heap.objs.size + 1 →
      (∀ c o, c ≠ z → c ≠ i1 → c ≠ i2 → s.heap.get? c = some o → h'.get? c = some o) → Q (.ref s.heap.objs.size) { s with heap := h', toks := tk }) :
    wpAny (model prog w) A (Builtin.«zip.__next__» ⟨[.ref z], []⟩) (fun fin s' => ∃ v, fin = .done (.ret v) ∧ Q v s') E s := by
  obtain ⟨hp, g, d, tk0, os⟩ := s
  show wpAny _ _ (field (.ref z) 2 >>= _) _ _ _
  refine wpAny_bind (wpAny_field hz rfl (x := .bool false) rfl ?_)
  show wpAny _ _ (field (.ref z) 3 >>= _) _ _ _
  refine wpAny_bind (wpAny_field hz rfl (x := .ref TI) rfl ?_)
  refine wpAny_bind (wpAny_seqItems hTI rfl ?_)
  show wpAny _ _ (Builtin.SmallTypes.ownedTupleIsFree (.ref z) >>= _) _ _ _
  refine wpAny_bind (wpAny_tupleHeld_zip (s := ⟨hp, g, d, tk0, os⟩) hz hT fun h₁ hz₁ hs₁ => ?_)
  replace hs₁ : Heap.SameBut z hp h₁ := hs₁
  simp only [Bool.false_eq_true, if_false]
  refine wpAny_bind ?_
  rw [← Array.forIn_toList]
  simp only [List.forIn_cons, List.forIn_nil]
  refine wpAny_bind (wpAny_bind (wpAny_holding ?_))
  show wpAny _ _ (Builtin.SmallTypes.nextOf (.ref i1) >>= _) _ _ ⟨h₁, g, d, tk0, os⟩
  refine wpAny_bind (D1.item i _ _ _ hlt1 (D1.over st1 hs₁ S.zf1) fun x1 p1 tk1 hx1 sn1 hp1 => wpAny_pure ?_)
  replace hp1 : Heap.SameBut i1 h₁ p1 := hp1
  refine wpAny_pure ?_
  refine wpAny_bind (wpAny_bind (wpAny_holding ?_))
  show wpAny _ _ (Builtin.SmallTypes.nextOf (.ref i2) >>= _) _ _ ⟨p1, g, d, tk1, os⟩
  refine wpAny_bind (D2.item i _ _ _ hlt2 (D2.over (D2.over st2 hs₁ S.zf2) hp1 S.sep1_2) fun x2 p2 tk2 hx2 sn2 hp2 => wpAny_pure ?_)
  replace hp2 : Heap.SameBut i2 p1 p2 := hp2
  refine wpAny_pure (wpAny_pure ?_)
  show wpAny _ _ (newTuple [x1, x2] >>= _) _ _ ⟨p2, g, d, tk2, os⟩
  refine wpAny_bind (wpAny_newTuple ?_)
  have hsz : p2.objs.size = hp.objs.size := by rw [hp2.1, hp1.1, hs₁.1]
  have hz₃ : IsZipHeld p2 z TI TO T true := hp2.extBut _ _ S.zi2 (hp1.extBut _ _ S.zi1 hz₁)
  have hk : ∀ c o, c ≠ z → c ≠ i1 → c ≠ i2 → hp.get? c = some o → p2.get? c = some o := fun c o c1 c2 c3 e => hp2.extBut _ _ c3 (hp1.extBut _ _ c2 (hs₁.extBut _ _ c1 e))
  have sn1' : St1 (i + 1) p2 := D1.over sn1 hp2 S.sep2_1
  refine wpAny_pure ⟨_, rfl, ?_⟩
  show Q (.ref p2.objs.size) ⟨p2.push { cls := .type "tuple", data := .seq #[x1, x2] }, g, d, tk2, os⟩
  have hpp : IsTupOf2 (p2.push { cls := .type "tuple", data := .seq #[x1, x2] }) p2.objs.size x1 x2 := Heap.get?_push_size _ rfl
  have hz4 : (p2.push { cls := .type "tuple", data := .seq #[x1, x2] }).objs.size = p2.objs.size + 1 := Heap.size_push ..
  rw [hsz] at hpp hz4 ⊢
  exact hQ x1 x2 _ tk2 hx1 hx2 (Heap.get?_push_of_some _ hz₃) (D1.frame _ _ _ sn1' fun b _ o e => Heap.get?_push_of_some _ e) (D2.frame _ _ _ sn2 fun b _ o e => Heap.get?_push_of_some _ e) hpp hz4 fun c o c1 c2 c3 e => Heap.get?_push_of_some _ (hk c o c1 c2 c3 e)

theorem zh_next_end {T : Addr} {f : Bool} {oT : Obj} {Q : Fin → Shared → Prop} (S : ZipSep2 z TI TO i1 i2 fp1 fp2) (D1 : Draws prog w A i1 fp1 n1 P1 St1) (D2 : Draws prog w A i2 fp2 n2 P2 St2)
    (hz : IsZipHeld s.heap z TI TO T f) (hT : s.heap.get? T = some oT) (hTI : IsTupOf2 s.heap TI (.ref i1) (.ref i2)) (st1 : St1 i s.heap) (st2 : St2 i s.heap) (hle1 : i ≤ n1) (hle2 : i ≤ n2) (hend : i = n1 ∨ i = n2)
    (hE : ∀ h' tk e, (∀ c o, c ≠ z → c ≠ i1 → c ≠ i2 → s.heap.get? c = some o → h'.get? c = some o) → (∃ o, h'.get? e = some o ∧ o.cls = .type "StopIteration") → E (.ref e) { s with heap := h', toks := tk }) :
    wpAny (model prog w) A (Builtin.«zip.__next__» ⟨[.ref z], []⟩) Q E s := by
  obtain ⟨hp, g, d, tk0, os⟩ := s
  show wpAny _ _ (field (.ref z) 2 >>= _) _ _ _
  refine wpAny_bind (wpAny_field hz rfl (x := .bool false) rfl ?_)
  show wpAny _ _ (field (.ref z) 3 >>= _) _ _ _
  refine wpAny_bind (wpAny_field hz rfl (x := .ref TI) rfl ?_)
  refine wpAny_bind (wpAny_seqItems hTI rfl ?_)
  show wpAny _ _ (Builtin.SmallTypes.ownedTupleIsFree (.ref z) >>= _) _ _ _
  refine wpAny_bind (wpAny_tupleHeld_zip (s := ⟨hp, g, d, tk0, os⟩) hz hT fun h₁ hz₁ hs₁ => ?_)
  replace hs₁ : Heap.SameBut z hp h₁ := hs₁
  simp only [Bool.false_eq_true, if_false]
  refine wpAny_bind ?_
  rw [← Array.forIn_toList]
  simp only [List.forIn_cons, List.forIn_nil]
  refine wpAny_bind (wpAny_bind (wpAny_holding ?_))
  show wpAny _ _ (Builtin.SmallTypes.nextOf (.ref i1) >>= _) _ _ ⟨h₁, g, d, tk0, os⟩
  by_cases hlt1 : i < n1
  · refine wpAny_bind (D1.item i _ _ _ hlt1 (D1.over st1 hs₁ S.zf1) fun x1 p1 tk1 hx1 sn1 hp1 => wpAny_pure ?_)
    replace hp1 : Heap.SameBut i1 h₁ p1 := hp1
    refine wpAny_pure ?_
    refine wpAny_bind (wpAny_bind (wpAny_holding ?_))
    have hi2 : i = n2 := by omega
    show wpAny _ _ (Builtin.SmallTypes.nextOf (.ref i2) >>= _) _ _ ⟨p1, g, d, tk1, os⟩
    refine wpAny_bind (D2.done ⟨p1, g, d, tk1, os⟩ _ _ (by rw [← hi2]; exact D2.over (D2.over st2 hs₁ S.zf2) hp1 S.sep1_2) fun q e hq he => ?_)
    replace hq : Heap.ExtBut i2 p1 q := hq
    exact hE q tk1 e (fun c o c1 c2 c3 x => hq _ _ c3 (hp1.extBut _ _ c2 (hs₁.extBut _ _ c1 x))) he
  · have hi1 : i = n1 := by omega
    refine wpAny_bind (D1.done ⟨h₁, g, d, tk0, os⟩ _ _ (by rw [← hi1]; exact D1.over st1 hs₁ S.zf1) fun q e hq he => ?_)
    replace hq : Heap.ExtBut i1 h₁ q := hq
    exact hE q tk0 e (fun c o c1 c2 c3 x => hq _ _ c2 (hs₁.extBut _ _ c1 x)) he

/-- zip while a list S gathers its tuples: none out yet, or one that is still there -/
def ZSt (z TI TO i1 i2 S : Addr) (St1 St2 : Nat → Heap → Prop) (k : Nat) (h : Heap) : Prop :=
  IsTupOf2 h TI (.ref i1) (.ref i2) ∧ St1 k h ∧ St2 k h ∧ ((IsZip h z TI TO .none ∧ ∃ a b, IsTupOf2 h TO a b) ∨ ∃ (T : Addr) (f : Bool) (oT : Obj), IsZipHeld h z TI TO T f ∧ h.get? T = some oT ∧ T ≠ z ∧ T ≠ i1 ∧ T ≠ i2 ∧ T ≠ S)
theorem ZSt.ty {S : Addr} (st : ZSt z TI TO i1 i2 S St1 St2 i s.heap) : s.TypeIs (.ref z) "zip" := by
  obtain ⟨_, _, _, hz⟩ := st
  rcases hz with ⟨hz, _⟩ | ⟨_, _, _, hz, _⟩
  · exact ⟨_, hz, rfl⟩
  · exact ⟨_, hz, rfl⟩
theorem ZSt.keep {S : Addr} {h h' : Heap} {x : Addr} (D1 : Draws prog w A i1 fp1 n1 P1 St1) (D2 : Draws prog w A i2 fp2 n2 P2 St2) (st : ZSt z TI TO i1 i2 S St1 St2 i h) (hk : ∀ b o, b ≠ S → h.get? b = some o → h'.get? b = some o) (e1 : S ≠ TI) (e2 : S ≠ TO) (e3 : S ≠ z) (e4 : S ∉ fp1) (e5 : S ∉ fp2) : ZSt z TI TO i1 i2 S St1 St2 i h' := by
  obtain ⟨t1, s1, s2, hz⟩ := st
  refine ⟨hk _ _ (Ne.symm e1) t1, D1.frame _ _ _ s1 fun b hb o e => hk b o (fun q => e4 (q ▸ hb)) e, D2.frame _ _ _ s2 fun b hb o e => hk b o (fun q => e5 (q ▸ hb)) e, ?_⟩
  rcases hz with ⟨hz, a, b, ht⟩ | ⟨T, f, oT, hz, hT, q1, q2, q3, q4⟩
  · exact .inl ⟨hk _ _ (Ne.symm e3) hz, a, b, hk _ _ (Ne.symm e2) ht⟩
  · exact .inr ⟨T, f, oT, hk _ _ (Ne.symm e3) hz, hk _ _ q4 hT, q1, q2, q3, q4⟩
theorem zl_item {S : Addr} {Q : Option Value → Shared → Prop} (Z : ZipSep2 z TI TO i1 i2 fp1 fp2) (D1 : Draws prog w A.in1 i1 fp1 n1 P1 St1) (D2 : Draws prog w A.in1 i2 fp2 n2 P2 St2) (st : ZSt z TI TO i1 i2 S St1 St2 i s.heap) (hS : S < s.heap.objs.size) (hlt1 : i < n1) (hlt2 : i < n2)
    (hQ : ∀ x1 x2 h' tk, P1 i x1 → P2 i x2 → ZSt z TI TO i1 i2 S St1 St2 (i + 1) h' → IsTupOf2 h' s.heap.objs.size x1 x2 → h'.objs.size = s.heap.objs.size + 1 →
      (∀ c o, c ≠ z → c ≠ TO → c ≠ i1 → c ≠ i2 → s.heap.get? c = some o → h'.get? c = some o) → Q (some (.ref s.heap.objs.size)) { s with heap := h', toks := tk }) :
    wpAny (model prog w) A (pyNext (.ref z)) Q E s := by
  have hTy : s.TypeIs (.ref z) "zip" := st.ty
  obtain ⟨hTI, st1, st2, hz⟩ := st
  have lt : ∀ {c o}, s.heap.get? c = some o → s.heap.objs.size ≠ c := fun e => Nat.ne_of_gt (Heap.lt_size e)
  have l1 : s.heap.objs.size ≠ i1 := by obtain ⟨_, e⟩ := D1.live _ _ st1; exact lt e
  have l2 : s.heap.objs.size ≠ i2 := by obtain ⟨_, e⟩ := D2.live _ _ st2; exact lt e
  rcases hz with ⟨hz, a, b, hTO⟩ | ⟨T, f, oT, hz, hT, r1, r2, r3, r4⟩
  · refine wpAny_pyNext_zipD2_item Z D1 D2 hz hTI hTO st1 st2 hlt1 hlt2 fun x1 x2 h' tk y1 y2 b1 b2 d1 d2 b5 b6 hk => ?_
    exact hQ x1 x2 h' tk y1 y2 ⟨hk _ _ Z.TIz Z.TITO Z.TIi1 Z.TIi2 hTI, d1, d2, .inr ⟨s.heap.objs.size, false, _, b1, b5, lt hz, l1, l2, Nat.ne_of_gt hS⟩⟩ b5 b6 hk
  · unfold pyNext
    refine wpAny_bind (wpAny_attempt (wpAny_callSpecial?_slot (name := Str.ofString "__next__") hTy F.slot_zip_next
      (wpAny_call_entry F.slot_zip_next hTy F.entry_zip_next
        (zh_next_item Z D1 D2 hz hT hTI st1 st2 hlt1 hlt2 fun x1 x2 h' tk y1 y2 b1 d1 d2 b5 b6 hk => wpAny_pure ?_) (F.args_zip_next_1 _))))
    exact hQ x1 x2 h' tk y1 y2 ⟨hk _ _ Z.TIz Z.TIi1 Z.TIi2 hTI, d1, d2, .inr ⟨T, true, oT, b1, hk _ _ r1 r2 r3 hT, r1, r2, r3, r4⟩⟩ b5 b6 fun c o c1 _ c3 c4 e => hk c o c1 c3 c4 e
theorem zl_done {S : Addr} {Q : Option Value → Shared → Prop} (Z : ZipSep2 z TI TO i1 i2 fp1 fp2) (D1 : Draws prog w A.in1 i1 fp1 n1 P1 St1) (D2 : Draws prog w A.in1 i2 fp2 n2 P2 St2) (st : ZSt z TI TO i1 i2 S St1 St2 i s.heap) (hle1 : i ≤ n1) (hle2 : i ≤ n2) (hend : i = n1 ∨ i = n2)
    (hQ : ∀ h' tk, (∀ c o, c ≠ z → c ≠ TO → c ≠ i1 → c ≠ i2 → s.heap.get? c = some o → h'.get? c = some o) → Q none { s with heap := h', toks := tk }) :
    wpAny (model prog w) A (pyNext (.ref z)) Q E s := by
  have hTy : s.TypeIs (.ref z) "zip" := st.ty
  obtain ⟨hTI, st1, st2, hz⟩ := st
  rcases hz with ⟨hz, a, b, hTO⟩ | ⟨T, f, oT, hz, hT, r1, r2, r3, r4⟩
  · exact wpAny_pyNext_zipD2_end Z D1 D2 hz hTI hTO st1 st2 hle1 hle2 hend hQ
  · unfold pyNext
    refine wpAny_bind (wpAny_attempt (wpAny_callSpecial?_slot (name := Str.ofString "__next__") hTy F.slot_zip_next
      (wpAny_call_entry F.slot_zip_next hTy F.entry_zip_next (zh_next_end Z D1 D2 hz hT hTI st1 st2 hle1 hle2 hend fun h' tk e hk he => ?_) (F.args_zip_next_1 _))))
    obtain ⟨o, ho, hc⟩ := he
    refine wpAny_bind (wpAny_isInstance (T := "StopIteration") (b := true) ⟨o, ho, hc⟩ isSubtype_stop ?_)
    exact wpAny_pure (hQ _ _ fun c o c1 _ c3 c4 e => hk c o c1 c3 c4 e)
end
/-- the addresses as hold the pairs, in order, as tuples; they lie above lo and rise -/
structure ZG (P1 P2 : Nat → Value → Prop) (lo : Addr) (h : Heap) (as : List Addr) : Prop where
  rise : as.Pairwise (· < ·)
  above : ∀ a ∈ as, lo < a
  pairs : ∀ (j : Nat) (a : Addr), as[j]? = some a → ∃ x y, P1 j x ∧ P2 j y ∧ IsTupOf2 h a x y
theorem ZG.there {P1 P2 : Nat → Value → Prop} {lo : Addr} {h : Heap} {as : List Addr} (g : ZG P1 P2 lo h as) {a : Addr} (ha : a ∈ as) : a < h.objs.size := by
  obtain ⟨j, hj⟩ := List.mem_iff_getElem?.mp ha
  obtain ⟨_, _, _, _, e⟩ := g.pairs j a hj
  exact Heap.lt_size e
theorem ZG.low {P1 P2 : Nat → Value → Prop} {lo lo' : Addr} {h : Heap} {as : List Addr} (g : ZG P1 P2 lo h as) (hl : lo' ≤ lo) : ZG P1 P2 lo' h as := ⟨g.rise, fun a ha => Nat.lt_of_le_of_lt hl (g.above a ha), g.pairs⟩
section
variable {prog : Program} {w : World} {A : Around} {s : Shared} {R : Result → Shared → Prop} {z TI TO i1 i2 : Addr} {fp1 fp2 : List Addr} {n1 n2 : Nat} {P1 P2 : Nat → Value → Prop} {St1 St2 : Nat → Heap → Prop}
theorem zl_loop {S lo : Addr} (Z : ZipSep2 z TI TO i1 i2 fp1 fp2) (D1 : Draws prog w A.in1.in1 i1 fp1 n1 P1 St1) (D2 : Draws prog w A.in1.in1 i2 fp2 n2 P2 St2) (e1 : S ≠ TI) (e2 : S ≠ TO) (e3 : S ≠ z) (e4 : S ∉ fp1) (e5 : S ∉ fp2)
    (l0 : S ≤ lo) (l1 : z ≤ lo) (l2 : TO ≤ lo) (l3 : i1 ≤ lo) (l4 : i2 ≤ lo) (hn : n1 ≤ sizeLine) (res : Value) {h₁ : Heap}
    (hR : ∀ h' tk acc c as, (∀ b o, b ≠ S → b ≠ z → b ≠ TO → b ≠ i1 → b ≠ i2 → h₁.get? b = some o → h'.get? b = some o) → h'.get? S = some { cls := .type "list", dict := none, data := .seq acc c, slots := #[] } → as.length = min n1 n2 → ZG P1 P2 lo h' as →
      acc.toList = as.map Value.ref → R (.ok (.ret res)) { s with heap := h', toks := tk }) :
    ∀ (k i : Nat) (h : Heap) (tk c : Nat) (acc : Array Value) (as : List Addr), min n1 n2 - i = k → i ≤ min n1 n2 → ZSt z TI TO i1 i2 S St1 St2 i h → (∀ b o, b ≠ S → b ≠ z → b ≠ TO → b ≠ i1 → b ≠ i2 → h₁.get? b = some o → h.get? b = some o) →
      h.get? S = some { cls := .type "list", dict := none, data := .seq acc c, slots := #[] } → acc.toList = as.map Value.ref → as.length = i → ZG P1 P2 lo h as → lo < h.objs.size →
      codeAny (model prog w) A (.builtin "list.extend.loop" ⟨[.ref S, .ref z, res], []⟩) R { s with heap := h, toks := tk } := by
  have n1' : S ≠ i1 := fun e => e4 (e ▸ Z.mem1)
  have n2' : S ≠ i2 := fun e => e5 (e ▸ Z.mem2)
  intro k
  induction k with
  | zero =>
    intro i h tk c acc as hk hi hst hkeep hS hacc hal hG hIs
    have hin : i = min n1 n2 := by omega
    refine codeAny_builtin PySem.F.entry_extend_loop ?_
    rw [Around.under_plainId PySem.F.plain_extend_loop _]
    show wpAny _ A.in1 (pyNext (.ref z) >>= _) _ _ _
    refine wpAny_bind (zl_done (s := { s with heap := h, toks := tk }) (A := A.in1) Z D1 D2 hst (by omega) (by omega) (by omega) fun h' tk' he => ?_)
    refine wpAny_pure (hR h' tk' acc c as (fun b o h1 h2 h3 h4 h5 e => he b o h2 h3 h4 h5 (hkeep b o h1 h2 h3 h4 h5 e)) (he S _ e3 e2 n1' n2' hS) (by omega) ⟨hG.rise, hG.above, fun j a hj => ?_⟩ hacc)
    obtain ⟨x, y, px, py, e⟩ := hG.pairs j a hj
    have ha := hG.above a (List.mem_of_getElem? hj)
    exact ⟨x, y, px, py, he a _ (Nat.ne_of_gt (Nat.lt_of_le_of_lt l1 ha)) (Nat.ne_of_gt (Nat.lt_of_le_of_lt l2 ha)) (Nat.ne_of_gt (Nat.lt_of_le_of_lt l3 ha)) (Nat.ne_of_gt (Nat.lt_of_le_of_lt l4 ha)) e⟩
  | succ k ih =>
    intro i h tk c acc as hk hi hst hkeep hS hacc hal hG hIs
    have hlt : i < min n1 n2 := by omega
    have hsz : acc.size = i := by rw [← Array.length_toList, hacc, List.length_map, hal]
    refine codeAny_builtin PySem.F.entry_extend_loop ?_
    rw [Around.under_plainId PySem.F.plain_extend_loop _]
    show wpAny _ A.in1 (pyNext (.ref z) >>= _) _ _ _
    have hSl : S < h.objs.size := Heap.lt_size hS
    refine wpAny_bind (zl_item (s := { s with heap := h, toks := tk }) (A := A.in1) Z D1 D2 hst hSl (by omega) (by omega) fun x1 x2 h' tk' hx1 hx2 hst' ht hz hkp => ?_)
    dsimp only at ht hz hkp ⊢
    have hS' := hkp S _ e3 e2 n1' n2' hS
    have up : ∀ b o, b ≠ S → h'.get? b = some o → (h'.update S (Obj.mapSeq (·.push (Value.ref h.objs.size)))).get? b = some o := fun b o hb e => (Heap.get?_update_other _ _ (Ne.symm hb)).trans e
    show wpAny _ A.in1 (updateSeq S (·.push (Value.ref h.objs.size)) >>= _) _ _ _
    refine wpAny_bind ?_
    refine wpAny_updateSeq hS' rfl (wpAny_pure ⟨plainId_quiet PySem.F.plain_extend_loop _, ih (i + 1) _ tk' _ (acc.push (Value.ref h.objs.size)) (as ++ [h.objs.size]) (by omega) hlt (ZSt.keep (x := S) D1 D2 hst' up e1 e2 e3 e4 e5)
      (fun b o h1 h2 h3 h4 h5 e => up b o h1 (hkp b o h2 h3 h4 h5 (hkeep b o h1 h2 h3 h4 h5 e))) (Heap.get?_update_self _ hS' rfl) (by rw [Array.toList_push, hacc, List.map_append]; rfl) (by rw [List.length_append, hal]; rfl) ⟨?_, ?_, ?_⟩ ?_⟩) (by rw [hsz]; omega) (by show (acc.push (Value.ref h.objs.size)).size ≤ sizeLine + 1; rw [Array.size_push, hsz]; omega)
    · refine List.pairwise_append.mpr ⟨hG.rise, List.pairwise_singleton _ _, fun a ha b hb => ?_⟩
      rw [List.mem_singleton.mp hb]
      exact hG.there ha
    · intro a ha
      rcases List.mem_append.mp ha with ha | ha
      · exact hG.above a ha
      · rw [List.mem_singleton.mp ha]; exact hIs
    · intro j b hj
      rcases Nat.lt_trichotomy j as.length with h1 | h1 | h1
      · rw [List.getElem?_append_left h1] at hj
        obtain ⟨x, y, px, py, e⟩ := hG.pairs j b hj
        have ha := hG.above b (List.mem_of_getElem? hj)
        exact ⟨x, y, px, py, up b _ (Nat.ne_of_gt (Nat.lt_of_le_of_lt l0 ha)) (hkp b _ (Nat.ne_of_gt (Nat.lt_of_le_of_lt l1 ha)) (Nat.ne_of_gt (Nat.lt_of_le_of_lt l2 ha)) (Nat.ne_of_gt (Nat.lt_of_le_of_lt l3 ha)) (Nat.ne_of_gt (Nat.lt_of_le_of_lt l4 ha)) e)⟩
      · subst h1
        have hb : h.objs.size = b := by simpa using hj
        subst hb
        exact ⟨x1, x2, by rw [hal]; exact hx1, by rw [hal]; exact hx2, up _ _ (Nat.ne_of_gt hSl) ht⟩
      · have hnone : (as ++ [h.objs.size])[j]? = none := List.getElem?_eq_none (by rw [List.length_append, List.length_singleton]; omega)
        rw [hnone] at hj; cases hj
    · have e : (h'.update S (Obj.mapSeq (·.push (Value.ref h.objs.size)))).get? h.objs.size = _ := up _ _ (Nat.ne_of_gt hSl) ht
      exact Nat.lt_trans hIs (Heap.lt_size e)
end
theorem zip_no_len : typeLookup (.type "zip") "__len__" = pure none := by rw [typeLookup_type, builtinLookup_eq_fast]; kernel_rfl
theorem zip_no_hint : typeLookup (.type "zip") "__length_hint__" = pure none := by rw [typeLookup_type, builtinLookup_eq_fast]; kernel_rfl
section
variable {prog : Program} {w : World} {A : Around} {E : Value → Shared → Prop} {s : Shared} {z TI TO i1 i2 : Addr} {fp1 fp2 : List Addr} {n1 n2 : Nat} {P1 P2 : Nat → Value → Prop} {St1 St2 : Nat → Heap → Prop}
theorem zl_hint (hT : s.TypeIs (.ref z) "zip") {Q : Bool → Shared → Prop} (h : Q true s) : wpAny (model prog w) A (Builtin.List.listLengthHint (.ref z)) Q E s := by
  unfold Builtin.List.listLengthHint
  refine wpAny_bind (wpAny_specialOf hT zip_no_len ?_)
  show wpAny _ A (specialOf (Value.ref z) (Str.ofString "__length_hint__") >>= _) _ _ _
  refine wpAny_bind (wpAny_specialOf hT zip_no_hint ?_)
  exact wpAny_pure h
theorem zl_extend {R : Result → Shared → Prop} (Z : ZipSep2 z TI TO i1 i2 fp1 fp2) (D1 : Draws prog w A.in1.in1 i1 fp1 n1 P1 St1) (D2 : Draws prog w A.in1.in1 i2 fp2 n2 P2 St2) (S : Addr) (e1 : S ≠ TI) (e2 : S ≠ TO) (e3 : S ≠ z) (e4 : S ∉ fp1) (e5 : S ∉ fp2)
    (hz : IsZip s.heap z TI TO .none) (hTI : IsTupOf2 s.heap TI (.ref i1) (.ref i2)) (hTO : ∃ a b, IsTupOf2 s.heap TO a b) (st1 : St1 0 s.heap) (st2 : St2 0 s.heap)
    {lo : Addr} (l0 : S ≤ lo) (l1 : z ≤ lo) (l2 : TO ≤ lo) (l3 : i1 ≤ lo) (l4 : i2 ≤ lo) (llo : lo < s.heap.objs.size) (hn : n1 ≤ sizeLine)
    (res : Value) (c₀ : Nat) (hS : s.heap.get? S = some { cls := .type "list", data := .seq #[] c₀ })
    (hR : ∀ h' tk acc c as, (∀ b o, b ≠ S → b ≠ z → b ≠ TO → b ≠ i1 → b ≠ i2 → s.heap.get? b = some o → h'.get? b = some o) → h'.get? S = some { cls := .type "list", dict := none, data := .seq acc c, slots := #[] } → as.length = min n1 n2 → ZG P1 P2 lo h' as →
      acc.toList = as.map Value.ref → R (.ok (.ret res)) { s with heap := h', toks := tk }) :
    wpAny (model prog w) A.in1 (Builtin.List.listExtendWith (.ref S) (.ref z) res)
      (fun fin s' => match fin with | .done f => R (.ok f) s' | .again c' => c'.quiet = true ∧ codeAny (model prog w) A c' R s') (fun e s' => R (.error e) s') s := by
  have hTy : s.TypeIs (.ref z) "zip" := ⟨_, hz, rfl⟩
  have st : ZSt z TI TO i1 i2 S St1 St2 0 s.heap := ⟨hTI, st1, st2, .inl ⟨hz, hTO⟩⟩
  have key : ∀ (h : Heap) (c₁ tk : Nat), h.objs.size = s.heap.objs.size → (∀ b o, b ≠ S → s.heap.get? b = some o → h.get? b = some o) → h.get? S = some { cls := .type "list", data := .seq #[] c₁ } →
      codeAny (model prog w) A (.builtin "list.extend.loop" ⟨[.ref S, .ref z, res], []⟩) R { s with heap := h, toks := tk } := by
    intro h c₁ tk hsz hk hS₁
    have hlo : lo < h.objs.size := by rw [hsz]; exact llo
    exact zl_loop (s := s) (h₁ := s.heap) Z D1 D2 e1 e2 e3 e4 e5 l0 l1 l2 l3 l4 hn res hR (min n1 n2) 0 h tk c₁ #[] [] (Nat.sub_zero _) (Nat.zero_le _) (ZSt.keep (x := S) D1 D2 st hk e1 e2 e3 e4 e5) (fun b o hb _ _ _ _ e => hk b o hb e) hS₁ rfl rfl
      ⟨List.Pairwise.nil, (fun _ ha => nomatch ha), (fun j a hj => by simp at hj)⟩ hlo
  unfold Builtin.List.listExtendWith
  refine wpAny_bind (wpAny_typeOf (T := "zip") hTy ?_)
  have h1 : Builtin.List.listSameRef (.ref S) (.ref z) = false := by simp [Builtin.List.listSameRef, e3]
  have h2 : (Value.type "zip" == Value.type "list") = false := by decide
  have h3 : (Value.type "zip" == Value.type "tuple") = false := by decide
  simp only [h1, h2, h3, Bool.or_false, Bool.false_eq_true, if_false]
  refine wpAny_bind (wpAny_pyIter_zip hz ?_)
  refine wpAny_bind (wpAny_holding (zl_hint hTy ?_))
  refine wpAny_ite_split (fun _ => ?_) (fun _ => wpAny_pure ⟨plainId_quiet PySem.F.plain_extend_loop _, key _ c₀ _ rfl (fun b o _ e => e) hS⟩)
  refine wpAny_bind (wpAny_rule ?_)
  refine wpAny_bind ?_
  show wpAny _ _ (updateSeq S (·.push .none) >>= fun _ => updateSeq S (·.pop)) _ _ _
  refine wpAny_bind (wpAny_updateSeq hS rfl ?_)
  have hS₂ := Heap.get?_update_self (Obj.mapSeq (·.push Value.none)) hS rfl
  refine wpAny_updateSeq (hz := by seq_fits) hS₂ rfl ?_
  have hS₃ := Heap.get?_update_self (Obj.mapSeq (·.pop)) hS₂ rfl
  refine wpAny_pure ⟨plainId_quiet PySem.F.plain_extend_loop _, key _ _ _ (by rw [(Heap.SameBut.update ..).1, (Heap.SameBut.update ..).1]) (fun b o hb e => ?_) hS₃⟩
  exact (Heap.get?_update_other _ _ (Ne.symm hb)).trans ((Heap.get?_update_other _ _ (Ne.symm hb)).trans e)
theorem zl_init {R : Result → Shared → Prop} (Z : ZipSep2 z TI TO i1 i2 fp1 fp2) (D1 : Draws prog w A.in1.in1 i1 fp1 n1 P1 St1) (D2 : Draws prog w A.in1.in1 i2 fp2 n2 P2 St2) (S : Addr) (e1 : S ≠ TI) (e2 : S ≠ TO) (e3 : S ≠ z) (e4 : S ∉ fp1) (e5 : S ∉ fp2)
    (hz : IsZip s.heap z TI TO .none) (hTI : IsTupOf2 s.heap TI (.ref i1) (.ref i2)) (hTO : ∃ a b, IsTupOf2 s.heap TO a b) (st1 : St1 0 s.heap) (st2 : St2 0 s.heap)
    {lo : Addr} (l0 : S ≤ lo) (l1 : z ≤ lo) (l2 : TO ≤ lo) (l3 : i1 ≤ lo) (l4 : i2 ≤ lo) (llo : lo < s.heap.objs.size) (hn : n1 ≤ sizeLine)
    (hS : s.heap.get? S = some { cls := .type "list", data := .seq #[] })
    (hR : ∀ h' tk acc c as, (∀ b o, b ≠ S → b ≠ z → b ≠ TO → b ≠ i1 → b ≠ i2 → s.heap.get? b = some o → h'.get? b = some o) → h'.get? S = some { cls := .type "list", dict := none, data := .seq acc c, slots := #[] } → as.length = min n1 n2 → ZG P1 P2 lo h' as →
      acc.toList = as.map Value.ref → R (.ok (.ret .none)) { s with heap := h', toks := tk }) :
    wpAny (model prog w) A.in1 (Builtin.«list.__init__» ⟨[.ref S, .ref z], []⟩)
      (fun fin s' => match fin with | .done f => R (.ok f) s' | .again c' => c'.quiet = true ∧ codeAny (model prog w) A c' R s') (fun e s' => R (.error e) s') s := by
  show wpAny _ _ (do let old ← Builtin.List.listItems (.ref S); Builtin.List.listUpdate (.ref S) (fun _ => #[]); letGo old.toList.reverse; Builtin.List.listExtendWith (.ref S) (.ref z) .none) _ _ s
  refine wpAny_bind ?_
  unfold Builtin.List.listItems
  refine wpAny_bind (wpAny_seqItems hS rfl (wpAny_pure ?_))
  show wpAny _ _ (updateSeq S (fun _ => #[]) >>= fun _ => letGo (#[] : Array Value).toList.reverse >>= fun _ => Builtin.List.listExtendWith (.ref S) (.ref z) .none) _ _ s
  refine wpAny_bind (wpAny_updateSeq hS rfl ?_)
  have hS₂ := Heap.get?_update_self (Obj.mapSeq (fun _ => (#[] : Array Value))) hS rfl
  have oth : ∀ b o, b ≠ S → s.heap.get? b = some o → (s.heap.update S (Obj.mapSeq (fun _ => (#[] : Array Value)))).get? b = some o :=
    fun b o hb e => (Heap.get?_update_other _ _ (Ne.symm hb)).trans e
  refine wpAny_bind (wpAny_letGo ?_)
  have hus : (s.heap.update S (Obj.mapSeq (fun _ => (#[] : Array Value)))).objs.size = s.heap.objs.size := (Heap.SameBut.update ..).1
  refine zl_extend Z D1 D2 S e1 e2 e3 e4 e5 (oth _ _ (Ne.symm e3) hz) (oth _ _ (Ne.symm e1) hTI) (let ⟨a, b, t⟩ := hTO; ⟨a, b, oth _ _ (Ne.symm e2) t⟩) (D1.frame _ _ _ st1 fun b hb o e => oth b o (fun q => e4 (q ▸ hb)) e) (D2.frame _ _ _ st2 fun b hb o e => oth b o (fun q => e5 (q ▸ hb)) e) l0 l1 l2 l3 l4
    (by rw [hus]; exact llo) hn .none _ hS₂ (fun h' tk acc c as hk hS' hl hG hacc => ?_)
  exact hR h' tk acc c as (fun b o hb h2 h3 h4 h5 e => hk b o hb h2 h3 h4 h5 (oth b o hb e)) hS' hl hG hacc
/-- list(zip object) -/
theorem zl_call {Q : Value → Shared → Prop} (Z : ZipSep2 z TI TO i1 i2 fp1 fp2) (D1 : Draws prog w A.in1.in1.in1 i1 fp1 n1 P1 St1) (D2 : Draws prog w A.in1.in1.in1 i2 fp2 n2 P2 St2)
    (f1 : ∀ b ∈ fp1, b < s.heap.objs.size) (f2 : ∀ b ∈ fp2, b < s.heap.objs.size)
    (hz : IsZip s.heap z TI TO .none) (hTI : IsTupOf2 s.heap TI (.ref i1) (.ref i2)) (hTO : ∃ a b, IsTupOf2 s.heap TO a b) (st1 : St1 0 s.heap) (st2 : St2 0 s.heap) (hn : n1 ≤ sizeLine)
    (hQ : ∀ h' tk acc c as, (∀ b o, b ≠ z → b ≠ TO → b ≠ i1 → b ≠ i2 → s.heap.get? b = some o → h'.get? b = some o) → h'.get? s.heap.objs.size = some { cls := .type "list", dict := none, data := .seq acc c, slots := #[] } → as.length = min n1 n2 → ZG P1 P2 s.heap.objs.size h' as →
      acc.toList = as.map Value.ref → Q (.ref s.heap.objs.size) { s with heap := h', toks := tk }) :
    wpAny (model prog w) A (call (.type "list") [.ref z]) Q E s := by
  refine callType_codes (Q₁ := fun obj s₁ => obj = .ref s.heap.objs.size ∧ s₁ = { s with heap := s.heap.push { cls := .type "list", data := .seq #[] } }) PySem.F.called_list (PySem.F.typeCall_list_1 _) PySem.F.entry_list_init
    (code_list_new _ ⟨rfl, rfl⟩) fun obj s₁ h₁ => ?_
  obtain ⟨rfl, rfl⟩ := h₁
  have hS : (s.heap.push { cls := .type "list", data := .seq #[] }).get? s.heap.objs.size = some { cls := .type "list", data := .seq #[] } := Heap.get?_push_size _ rfl
  have lz : z < s.heap.objs.size := Heap.lt_size hz
  have lTI : TI < s.heap.objs.size := Heap.lt_size hTI
  have lTO : TO < s.heap.objs.size := let ⟨_, _, t⟩ := hTO; Heap.lt_size t
  have li1 : i1 < s.heap.objs.size := f1 _ Z.mem1
  have li2 : i2 < s.heap.objs.size := f2 _ Z.mem2
  refine ⟨⟨_, hS, rfl⟩, PySem.F.args_list_init_2 _ _, zl_init (A := A.in1) Z D1 D2 s.heap.objs.size (Nat.ne_of_gt lTI) (Nat.ne_of_gt lTO) (Nat.ne_of_gt lz) (fun h => Nat.lt_irrefl _ (f1 _ h)) (fun h => Nat.lt_irrefl _ (f2 _ h))
    (Heap.get?_push_of_some _ hz) (Heap.get?_push_of_some _ hTI) (let ⟨a, b, t⟩ := hTO; ⟨a, b, Heap.get?_push_of_some _ t⟩) (D1.frame _ _ _ st1 fun b _ o e => Heap.get?_push_of_some _ e) (D2.frame _ _ _ st2 fun b _ o e => Heap.get?_push_of_some _ e)
    (lo := s.heap.objs.size) (Nat.le_refl _) (Nat.le_of_lt lz) (Nat.le_of_lt lTO) (Nat.le_of_lt li1) (Nat.le_of_lt li2) (by show s.heap.objs.size < (s.heap.push _).objs.size; rw [Heap.size_push]; exact Nat.lt_succ_self _) hn hS (fun h' tk acc c as hk hS' hl hG hacc => ?_)⟩
  exact ⟨rfl, hQ h' tk acc c as (fun b o h2 h3 h4 h5 e => hk b o (Nat.ne_of_lt (Heap.lt_size e)) h2 h3 h4 h5 (Heap.get?_push_of_some _ e)) hS' hl hG hacc⟩
end
end PySem

/-! list(zip(a, b)), zip of a list and a tuple in a walk -/
namespace LZ
open PySem PySem.Spec PyProof.Rows L2 RZ
def putT : Hp → List Addr → List (V × V) → Hp
  | H, a :: as, p :: kvs => putT (upd H a (.tup [p.1, p.2])) as kvs
  | H, _, _ => H
theorem putT_off {b : Addr} : ∀ (as : List Addr) (kvs : List (V × V)) (H : Hp), b ∉ as → putT H as kvs b = H b
  | [], _, _, _ => rfl
  | _ :: _, [], _, _ => rfl
  | a :: as, p :: kvs, H, h => by
    show putT (upd H a (.tup [p.1, p.2])) as kvs b = H b
    rw [putT_off as kvs _ (fun z => h (List.mem_cons_of_mem _ z)), upd_ne (fun z => h (by rw [z]; exact List.mem_cons_self))]
theorem putT_at : ∀ (as : List Addr) (kvs : List (V × V)) (H : Hp), as.length = kvs.length → as.Nodup → Paired (fun (t : Addr) (p : V × V) => putT H as kvs t = some (.tup [p.1, p.2])) as kvs
  | [], [], _, _, _ => .nil
  | [], _ :: _, _, h, _ => by cases h
  | _ :: _, [], _, h, _ => by cases h
  | a :: as, p :: kvs, H, h, hn => by
    have hn' := List.nodup_cons.mp hn
    have ih := putT_at as kvs (upd H a (.tup [p.1, p.2])) (Nat.succ.inj h) hn'.2
    refine .cons ?_ ih
    show putT (upd H a (.tup [p.1, p.2])) as kvs a = some (.tup [p.1, p.2])
    rw [putT_off as kvs _ hn'.1, upd_same]
/-- a list or a tuple at a -/
def SqX (K : PySem.W.Frag) (H : Hp) (a : Addr) (xs : List V) : Prop := SqL K H a xs ∨ SqT K H a xs
def Laid (H H' : Hp) (p : Addr) (ts : List Addr) (qs : List (V × V)) : Prop := (∀ b o, H b = some o → H' b = some o) ∧ H p = none ∧ (∀ t ∈ ts, H t = none) ∧ p ∉ ts ∧ H' p = some (.lst (ts.map V.ref)) ∧ Paired (fun (t : Addr) (q : V × V) => H' t = some (.tup [q.1, q.2])) ts qs
theorem laid {X : Cx} {pins : List (Addr × Obj)} {σ : L2.St} {H : Hp} {s : Shared} {h' : Heap} {tk : Nat} {xs ys : List V} {us ws : List Value} {acc : Array Value} {c : Nat} {S : Addr} {as : List Addr} (I : Inv X pins σ H s) (rx : Vals xs us) (ry : Vals ys ws) (hz : xs.length ≤ sizeLine) (hS0 : s.heap.objs.size ≤ S)
    (hk : ∀ b o, s.heap.get? b = some o → h'.get? b = some o) (hS : h'.get? S = some { cls := .type "list", dict := none, data := .seq acc c, slots := #[] }) (hl : as.length = min us.length ws.length) (hG : ZG (fun i v => us[i]? = some v) (fun i v => ws[i]? = some v) S h' as) (hacc : acc.toList = as.map Value.ref) :
    ∃ H' : Hp, Laid H H' S as (xs.zip ys) ∧ Inv X pins σ H' { s with heap := h', toks := tk } := by
  have l1 := rx.length
  have l2 := ry.length
  have lk : as.length = (xs.zip ys).length := by rw [List.length_zip]; omega
  have hSn : S ∉ as := fun z => Nat.lt_irrefl _ (hG.above _ z)
  have nd : as.Nodup := List.Pairwise.imp (fun {a b} (h : a < b) => Nat.ne_of_lt h) hG.rise
  have new : ∀ t ∈ as, H t = none := fun t ht => I.hok.fresh (Nat.le_trans hS0 (Nat.le_of_lt (hG.above t ht)))
  have newS : H S = none := I.hok.fresh hS0
  have atP := putT_at as (xs.zip ys) (upd H S (.lst (as.map V.ref))) lk nd
  have off : ∀ b, b ∉ as → b ≠ S → putT (upd H S (.lst (as.map V.ref))) as (xs.zip ys) b = H b := fun b h1 h2 => by rw [putT_off as _ _ h1, upd_ne h2]
  have low : ∀ b o, s.heap.get? b = some o → b ∉ as ∧ b ≠ S := fun b o e => ⟨fun z => absurd (Heap.lt_size e) (Nat.not_lt.mpr (Nat.le_trans hS0 (Nat.le_of_lt (hG.above b z)))), fun z => absurd (Heap.lt_size e) (Nat.not_lt.mpr (by rw [z]; exact hS0))⟩
  have kp : ∀ b u, H b = some u → (putT (upd H S (.lst (as.map V.ref))) as (xs.zip ys)) b = some u := fun b u e => by
    rw [off b (fun z => by rw [new b z] at e; cases e) (fun z => by rw [z, newS] at e; cases e)]
    exact e
  have eS : putT (upd H S (.lst (as.map V.ref))) as (xs.zip ys) S = some (.lst (as.map V.ref)) := by rw [putT_off as _ _ hSn, upd_same]
  refine ⟨putT (upd H S (.lst (as.map V.ref))) as (xs.zip ys), ⟨kp, newS, new, hSn, eS, atP⟩, ?_⟩
  refine I.call' (ch := []) rfl ⟨fun b o q _ _ _ => hk b o q, fun b o q _ _ _ => ⟨o.slots, hk b o q⟩, fun b o q n _ => ?_, fun b o q _ => ⟨o, hk b o q⟩, fun b xs q => kp b _ q, fun b o u q => kp b _ q, fun b ps q => ⟨#[], by rw [kp b _ q]; simp⟩⟩ (fun b u q => ?_) I.bare fun b z => by simp at z
  · obtain ⟨z1, z2⟩ := low b o q
    rw [off b z1 z2]
    exact n
  · by_cases hb : b ∈ as
    · obtain ⟨j, pk, e1, e2, e3⟩ := LiI.paired_ix atP hb
      rw [e3] at q
      cases q
      obtain ⟨x, y, f1, f2, f3⟩ := hG.pairs j b e1
      obtain ⟨g1, g2⟩ := List.getElem?_zip_eq_some.mp e2
      obtain ⟨u1, p1, p2⟩ := rx.get g1
      obtain ⟨u2, p3, p4⟩ := ry.get g2
      rw [p1] at f1; cases f1
      rw [p3] at f2; cases f2
      exact ⟨by show 2 ≤ sizeLine; decide, [x, y], .cons p2 (.cons p4 .nil), ⟨_, f3, rfl, _, rfl⟩⟩
    · by_cases hb2 : b = S
      · rw [hb2] at q ⊢
        rw [eS] at q
        cases q
        refine ⟨by rw [List.length_map]; omega, acc.toList, c, by rw [hacc]; exact LiI.vals_refs as, ?_⟩
        rw [Array.toArray_toList]
        exact hS
      · rw [off b hb hb2] at q
        exact (I.hok b u q).stay (fun d v _ y => hk d v y) (fun d y => kp d _ y) fun d xs y => kp d _ y
def tListZip (K : PySem.W.Frag) (ta : TA) : TE := fun σ H Q => ta σ H fun vs H1 => ∃ a b xs ys, vs = [.ref a, .ref b] ∧ SqX K H1 a xs ∧ SqX K H1 b ys ∧ ∀ H' p ts, Laid H1 H' p ts (xs.zip ys) → Q (.ref p) H'
/-- what stands there, and the walk over it -/
theorem src {X : Cx} {pins : List (Addr × Obj)} {σ : L2.St} {H : Hp} {s : Shared} {a : Addr} {xs : List V} (I : Inv X pins σ H s) (h : SqX X.K H a xs) : ∃ (us : List Value) (o : Obj) (HH : Heap → Prop), Vals xs us ∧ xs.length ≤ sizeLine ∧ a < s.heap.objs.size ∧ Begins (.ref a) o HH ∧ HH s.heap ∧
    ∀ (it : Addr), a ≠ it → ∃ St : Nat → Heap → Prop, (∀ A : Around, A.handled = none → Draws X.prog X.w A it [it, a] us.length (fun i v => us[i]? = some v) St) ∧ ∀ h' : Heap, HH h' → h'.get? it = some o → St 0 h' := by
  rcases h with h | h
  · obtain ⟨its, rv, p, hz⟩ := I.list h
    refine ⟨its, _, _, rv, hz, p.lt, begins_list a its.toArray, p.isList, fun it hne => ⟨fun i h => h.IsListIter it a i ∧ h.IsList a its.toArray, fun A hh => ?_, fun h' hH e => ⟨⟨_, e, rfl, rfl⟩, hH⟩⟩⟩
    have := Draws.list (prog := X.prog) (w := X.w) (A := A) hh it a hne its.toArray
    simpa using this
  · obtain ⟨its, rv, p, hz⟩ := I.tuple h
    refine ⟨its, _, _, rv, hz, (let ⟨o, e, _⟩ := p; Heap.lt_size e), begins_tuple a its.toArray, p, fun it hne => ⟨fun i h => h.IsTupleIter it a i ∧ h.IsTuple a its.toArray, fun A hh => ?_, fun h' hH e => ⟨⟨_, e, rfl, rfl⟩, hH⟩⟩⟩
    have := Draws.tuple (prog := X.prog) (w := X.w) (A := A) hh it a hne its.toArray
    simpa using this
theorem pe_listZip {X : Cx} {e e2 : Expr} {ta : TA} {p p2 pos pos2 : Pos} (hc : X.calm = true) (hg : Gl X "list") (hm : X.mg "list" = none) (hv : bootBuiltins "list" = some (.type "list")) (hg2 : Gl X "zip") (hm2 : X.mg "zip" = none) (ha : PA X [e, e2] ta)
    (hs0 : starEach [.Call (.Name "zip" p2) [e, e2] [] pos2] X.env = (false, eval (.Call (.Name "zip" p2) [e, e2] [] pos2) X.env) :: starEach [] X.env := by rfl)
    (hs : starEach [e, e2] X.env = (false, eval e X.env) :: starEach [e2] X.env := by rfl) (hpl : (backTo pos2 (starEach [e2] X.env)).any (·.1) = false := by rfl) :
    PE X (.Call (.Name "list" p) [.Call (.Name "zip" p2) [e, e2] [] pos2] [] pos) (tListZip X.K ta) := by
  refine ⟨fun pins s σ H Q I h => ?_⟩
  refine wpAny_Call_Name_kw (ld_blt I hg hm hv ?_)
  refine PyProof.Rows.callWith_type1 ?_ hs0 rfl
  rw [hs0]
  show wpAny _ _ (spliced ((false, eval (.Call (.Name "zip" p2) [e, e2] [] pos2) X.env) :: backTo pos (starEach [] X.env))) _ _ s
  refine Calls.spliced_cons ?_
  refine Call_ (ld_blt I hg2 hm2 PyProof.Rows.boot_zip (PyProof.Rows.callWith_type1 (thn (ha.run pos2 pins s σ H _ I h) fun us s1 ⟨vs, H1, I1, r1, q1⟩ => ?_) hs hpl))
  obtain ⟨a, b, xs, ys, rfl, hx, hy, q⟩ := q1
  cases r1 with
  | cons r rr =>
    cases rr with
    | cons r' rr =>
      cases rr
      cases r
      cases r'
      obtain ⟨u1, o1, HH1, v1, hz, la, B1, h1, d1⟩ := src I1 hx
      obtain ⟨u2, o2, HH2, v2, _, lb, B2, h2, d2⟩ := src I1 hy
      obtain ⟨St1, D1, s1'⟩ := d1 s1.heap.objs.size (Nat.ne_of_lt la)
      obtain ⟨St2, D2, s2'⟩ := d2 (s1.heap.objs.size + 1) (Nat.ne_of_lt (Nat.lt_succ_of_lt lb))
      have hd := I1.ok.hd hc
      refine zip_begins2 B1 B2 h1 h2 fun h' bz bT bO b1 b2 bs bk => Calls.spliced_nil ?_
      have Z : ZipSep2 (s1.heap.objs.size + 4) (s1.heap.objs.size + 2) (s1.heap.objs.size + 3) s1.heap.objs.size (s1.heap.objs.size + 1) (s1.heap.objs.size :: [a]) ((s1.heap.objs.size + 1) :: [b]) := zip_sep2 (fun c hc => by rw [List.mem_singleton.mp hc]; exact la) (fun c hc => by rw [List.mem_singleton.mp hc]; exact lb)
      refine zl_call (s := { s1 with heap := h' }) Z (D1 _ hd) (D2 _ hd) (fun c hc => ?_) (fun c hc => ?_) bz bT ⟨_, _, bO⟩ (s1' h' (B1.keeps _ _ h1 bk) b1) (s2' h' (B2.keeps _ _ h2 bk) b2) (by rw [← v1.length]; exact hz) fun h'' tk acc c as hk hS hl hG hacc => ?_
      · show c < h'.objs.size
        rw [bs]
        rcases List.mem_cons.mp hc with z | z
        · rw [z]; exact Nat.lt_add_of_pos_right (by decide)
        · rw [List.mem_singleton.mp z]; exact Nat.lt_of_lt_of_le la (Nat.le_add_right _ _)
      · show c < h'.objs.size
        rw [bs]
        rcases List.mem_cons.mp hc with z | z
        · rw [z]; exact Nat.add_lt_add_left (by decide) _
        · rw [List.mem_singleton.mp z]; exact Nat.lt_of_lt_of_le lb (Nat.le_add_right _ _)
      have low : ∀ c o, s1.heap.get? c = some o → h''.get? c = some o := fun c o e => by
        have hlt := Heap.lt_size e
        have hne : ∀ k : Nat, c ≠ s1.heap.objs.size + k := fun k => Nat.ne_of_lt (Nat.lt_of_lt_of_le hlt (Nat.le_add_right _ _))
        exact hk c o (hne 4) (hne 3) (hne 0) (hne 1) (bk c o e)
      obtain ⟨H', L, J⟩ := laid (tk := tk) I1 v1 v2 hz (show s1.heap.objs.size ≤ h'.objs.size by rw [bs]; exact Nat.le_add_right _ _) low hS hl hG hacc
      exact ⟨.ref _, H', J, rfl, q H' _ as L⟩
/-! ### for x, y in zip(a, b), each a list or a tuple -/
def SqB (t : Bool) (K : PySem.W.Frag) (H : Hp) (a : Addr) (xs : List V) : Prop := match t with
  | true => SqT K H a xs
  | false => SqL K H a xs
def IterB (t : Bool) (h : Heap) (it a : Addr) (i : Nat) : Prop := match t with
  | true => h.IsTupleIter it a i
  | false => h.IsListIter it a i
theorem IterB.at {t : Bool} {h h' : Heap} {it a : Addr} {i : Nat} (x : IterB t h it a i) (k : ∀ o, h.get? it = some o → h'.get? it = some o) : IterB t h' it a i := by
  cases t with
  | true => exact Heap.IsTupleIter.at (show h.IsTupleIter it a i from x) k
  | false => exact Heap.IsListIter.at (show h.IsListIter it a i from x) k
theorem IterB.obj {t : Bool} {h : Heap} {it a : Addr} {i : Nat} (x : IterB t h it a i) : ∃ o fs, h.get? it = some o ∧ o.data = .fields fs := by
  cases t with
  | true => obtain ⟨o, e, _, d⟩ := (show h.IsTupleIter it a i from x); exact ⟨o, _, e, d⟩
  | false => obtain ⟨o, e, _, d⟩ := (show h.IsListIter it a i from x); exact ⟨o, _, e, d⟩
theorem sqb_inj {X : Cx} {pins : List (Addr × Obj)} {σ : L2.St} {H : Hp} {s : Shared} {t : Bool} {a : Addr} {xs ys : List V} (I : Inv X pins σ H s) (h : SqB t X.K H a xs) (h' : SqB t X.K H a ys) : xs = ys := by
  cases t with
  | true => exact I.tuple_inj h h'
  | false => exact I.list_inj h h'
theorem srcB {X : Cx} {pins : List (Addr × Obj)} {σ : L2.St} {H : Hp} {s : Shared} {t : Bool} {a : Addr} {xs : List V} (I : Inv X pins σ H s) (h : SqB t X.K H a xs) : ∃ (us : List Value) (o : Obj) (HH : Heap → Prop), Vals xs us ∧ a < s.heap.objs.size ∧ Begins (.ref a) o HH ∧ HH s.heap ∧ (∀ h' it, h'.get? it = some o → IterB t h' it a 0) ∧
    ∀ (it : Addr), a ≠ it → ∃ St : Nat → Heap → Prop, (∀ A : Around, A.handled = none → Draws X.prog X.w A it [it, a] us.length (fun i v => us[i]? = some v) St) ∧ (∀ i, IterB t s.heap it a i → St i s.heap) ∧ ∀ i h', St i h' → IterB t h' it a i := by
  cases t with
  | false =>
    obtain ⟨its, rv, p, _⟩ := I.list (show SqL X.K H a xs from h)
    refine ⟨its, _, _, rv, p.lt, begins_list a its.toArray, p.isList, fun h' it e => ⟨_, e, rfl, rfl⟩, fun it hne => ⟨fun i h => h.IsListIter it a i ∧ h.IsList a its.toArray, fun A hh => ?_, fun i e => ⟨e, p.isList⟩, fun i h' e => e.1⟩⟩
    have := Draws.list (prog := X.prog) (w := X.w) (A := A) hh it a hne its.toArray
    simpa using this
  | true =>
    obtain ⟨its, rv, p, _⟩ := I.tuple (show SqT X.K H a xs from h)
    refine ⟨its, _, _, rv, (let ⟨o, e, _⟩ := p; Heap.lt_size e), begins_tuple a its.toArray, p, fun h' it e => ⟨_, e, rfl, rfl⟩, fun it hne => ⟨fun i h => h.IsTupleIter it a i ∧ h.IsTuple a its.toArray, fun A hh => ?_, fun i e => ⟨e, p⟩, fun i h' e => e.1⟩⟩
    have := Draws.tuple (prog := X.prog) (w := X.w) (A := A) hh it a hne its.toArray
    simpa using this
def ItzX (t u : Bool) (K : PySem.W.Frag) (a b : Addr) : It :=
  ⟨fun i H => ∃ (xs ys : List V) (x y : V), SqB t K H a xs ∧ SqB u K H b ys ∧ xs[i]? = some x ∧ ys[i]? = some y,
    fun i H v H' => ∃ T x y, v = .ref T ∧ H T = none ∧ H' = upd H T (.tup [x, y]) ∧ (∀ xs, SqB t K H a xs → xs[i]? = some x) ∧ ∀ ys, SqB u K H b ys → ys[i]? = some y,
    fun i H => ∃ xs ys : List V, SqB t K H a xs ∧ SqB u K H b ys ∧ i ≤ xs.length ∧ i ≤ ys.length ∧ (xs.length = i ∨ ys.length = i)⟩
theorem turn_zipX {P : Program} {w : World} {K : PySem.W.Frag} {elts : List Expr} {kk : Nat} {tpos : Pos} {t u : Bool} {a b z TI TO i1 i2 : Addr} (Z : ZipSep2 z TI TO i1 i2 [i1, a] [i2, b]) (na : a ≠ i1) (nb : b ≠ i2) :
    Turn P w K (.Tuple elts kk tpos) (ItzX t u K a b) [z, TI, TO, i1, i2] z (fun i h => IsZip h z TI TO .none ∧ IsTupOf2 h TI (.ref i1) (.ref i2) ∧ (∃ x y, IsTupOf2 h TO x y) ∧ IterB t h i1 a i ∧ IterB u h i2 b i) where
  mem := by simp
  obj := fun i h st c hc => by
    obtain ⟨hz, hTI, ⟨x, y, hTO⟩, h1, h2⟩ := st
    obtain ⟨o1, f1, e1, d1⟩ := h1.obj
    obtain ⟨o2, f2, e2, d2⟩ := h2.obj
    have e' : c = z ∨ c = TI ∨ c = TO ∨ c = i1 ∨ c = i2 := by simpa using hc
    rcases e' with q | q | q | q | q
    · rw [q]; exact ⟨_, hz, fun v q => nomatch q⟩
    · rw [q]; exact ⟨_, hTI, fun v q => nomatch q⟩
    · rw [q]; exact ⟨_, hTO, fun v q => nomatch q⟩
    · rw [q]; exact ⟨o1, e1, fun v q => by rw [d1] at q; cases q⟩
    · rw [q]; exact ⟨o2, e2, fun v q => by rw [d2] at q; cases q⟩
  keep := fun i h h' st k => by
    obtain ⟨hz, hTI, ⟨x, y, hTO⟩, h1, h2⟩ := st
    exact ⟨k z (by simp) _ hz, k TI (by simp) _ hTI, ⟨x, y, k TO (by simp) _ hTO⟩, h1.at fun o q => k i1 (by simp) o q, h2.at fun o q => k i2 (by simp) o q⟩
  item := by
    intro X hP hw hK hc i pins s σ H E I hf st hg
    subst hP hw hK
    obtain ⟨hz, hTI, ⟨x0, y0, hTO⟩, h1, h2⟩ := st
    obtain ⟨xs, ys, x, y, hqx, hqy, hx, hy⟩ := hg
    obtain ⟨us, _, _, rv, _, _, _, _, d1⟩ := srcB I hqx
    obtain ⟨ws, _, _, rv2, _, _, _, _, d2⟩ := srcB I hqy
    obtain ⟨St1, D1, b1, g1⟩ := d1 i1 na
    obtain ⟨St2, D2, b2, g2⟩ := d2 i2 nb
    have hd := I.ok.hd hc
    have hx1 : i < us.length := by rw [← rv.length]; exact (List.getElem?_eq_some_iff.mp hx).1
    have hx2 : i < ws.length := by rw [← rv2.length]; exact (List.getElem?_eq_some_iff.mp hy).1
    have hzl : z < s.heap.objs.size := Heap.lt_size hz
    refine wpAny_pyNext_zipD2_item Z (D1 _ hd) (D2 _ hd) hz hTI hTO (b1 i h1) (b2 i h2) hx1 hx2 fun v1 v2 h' tk p1 p2 z' TO' t1 t2 hT hsz hk => ?_
    obtain ⟨w1, k1, ru⟩ := rv.get hx
    obtain ⟨w2, k2, ru2⟩ := rv2.get hy
    rw [k1] at p1; cases p1
    rw [k2] at p2; cases p2
    refine ⟨_, rfl, wpAny_letOwnedTupleGo_zip (s := { s with heap := h', toks := tk }) z' fun h'' z'' sb => ?_⟩
    have hT2 : h''.get? s.heap.objs.size = some { cls := .type "tuple", data := .seq #[v1, v2] } := (sb.2 _ (Nat.ne_of_gt hzl)).trans hT
    have new : ObjOk X.prog X.w (upd H s.heap.objs.size (.tup [x, y])) h'' s.heap.objs.size (.tup [x, y]) :=
      ⟨by show 2 ≤ sizeLine; decide, [v1, v2], .cons ru (.cons ru2 .nil), ⟨_, hT2, rfl, _, rfl⟩⟩
    have I1 : Inv X pins σ (upd H s.heap.objs.size (.tup [x, y])) { s with heap := h'', toks := tk } :=
      I.turnedNew (t' := tk) (ch := [z, TI, TO, i1, i2]) (fun c o hb q => (sb.2 c (fun q' => hb (by simp [q']))).trans (hk c o (fun q' => hb (by simp [q'])) (fun q' => hb (by simp [q'])) (fun q' => hb (by simp [q'])) (fun q' => hb (by simp [q'])) q)) hf (Nat.le_refl _) new
    obtain ⟨o1, _, e1, _⟩ := h1.obj
    obtain ⟨o2, _, e2, _⟩ := h2.obj
    refine ⟨.ref s.heap.objs.size, _, I1, rfl, ⟨_, x, y, rfl, I.hok.fresh (Nat.le_refl _), rfl, fun l hl => by rw [sqb_inj I hl hqx]; exact hx, fun l hl => by rw [sqb_inj I hl hqy]; exact hy⟩, ⟨z'', ?_, ⟨v1, v2, ?_⟩, ?_, ?_⟩, fun c hcm => ?_⟩
    · exact (sb.2 _ Z.TIz).trans (hk _ _ Z.TIz Z.TITO Z.TIi1 Z.TIi2 hTI)
    · exact (sb.2 _ Z.TOz).trans TO'
    · exact (g1 _ _ t1).at fun o q => (sb.2 _ (Ne.symm Z.zi1)).trans q
    · exact (g2 _ _ t2).at fun o q => (sb.2 _ (Ne.symm Z.zi2)).trans q
    · have hlt : c < s.heap.objs.size := by
        have e' : c = z ∨ c = TI ∨ c = TO ∨ c = i1 ∨ c = i2 := by simpa using hcm
        rcases e' with q | q | q | q | q
        · rw [q]; exact hzl
        · rw [q]; exact Heap.lt_size hTI
        · rw [q]; exact Heap.lt_size hTO
        · rw [q]; exact Heap.lt_size e1
        · rw [q]; exact Heap.lt_size e2
      rw [upd_ne (Nat.ne_of_lt hlt)]
      exact (hf c hcm).1
  done := by
    intro X hP hw hK hc i pins s σ H E I hf st hg
    subst hP hw hK
    obtain ⟨hz, hTI, ⟨x0, y0, hTO⟩, h1, h2⟩ := st
    obtain ⟨xs, ys, hqx, hqy, hl1, hl2, hend⟩ := hg
    obtain ⟨us, _, _, rv, _, _, _, _, d1⟩ := srcB I hqx
    obtain ⟨ws, _, _, rv2, _, _, _, _, d2⟩ := srcB I hqy
    obtain ⟨St1, D1, b1, g1⟩ := d1 i1 na
    obtain ⟨St2, D2, b2, g2⟩ := d2 i2 nb
    have hd := I.ok.hd hc
    rw [rv.length] at hl1 hend
    rw [rv2.length] at hl2 hend
    exact wpAny_pyNext_zipD2_end Z (D1 _ hd) (D2 _ hd) hz hTI hTO (b1 i h1) (b2 i h2) hl1 hl2 (by omega) fun h' tk hk => ⟨rfl, I.turnedL (t' := tk) (ch := [z, TI, TO, i1, i2]) (fun c o hb q =>
      hk c o (fun q' => hb (by simp [q'])) (fun q' => hb (by simp [q'])) (fun q' => hb (by simp [q'])) (fun q' => hb (by simp [q'])) q) hf⟩
  self := fun A i s Q E st h => wpAny_pyIter_zip st.1 h
def iZipX (K : PySem.W.Frag) (ta : TA) : TI := fun σ H R => ta σ H fun vs H1 => ∃ t u a b xs ys, vs = [.ref a, .ref b] ∧ SqB t K H1 a xs ∧ SqB u K H1 b ys ∧ R (ItzX t u K a b) H1
theorem pi_zipX {X : Cx} {e e2 : Expr} {ta : TA} {p pos tpos : Pos} {elts : List Expr} {kk : Nat} (hg : Gl X "zip") (hm : X.mg "zip" = none) (ha : PA X [e, e2] ta)
    (hs : starEach [e, e2] X.env = (false, eval e X.env) :: starEach [e2] X.env := by rfl) (hpl : (backTo pos (starEach [e2] X.env)).any (·.1) = false := by rfl) :
    PI X (.Tuple elts kk tpos) (.Call (.Name "zip" p) [e, e2] [] pos) (iZipX X.K ta) := by
  refine ⟨fun pins s σ H R I h => ?_⟩
  refine Call_ (ld_blt I hg hm PyProof.Rows.boot_zip (PyProof.Rows.callWith_type1 (thn (ha.run pos pins s σ H _ I h) fun us s1 ⟨vs, H1, I1, r1, q1⟩ => ?_) hs hpl))
  obtain ⟨t, u, a, b, xs, ys, rfl, hx, hy, q⟩ := q1
  cases r1 with
  | cons r rr =>
    cases rr with
    | cons r' rr =>
      cases rr
      cases r
      cases r'
      have fresh5 : ∀ c, c ∈ [s1.heap.objs.size + 4, s1.heap.objs.size + 2, s1.heap.objs.size + 3, s1.heap.objs.size, s1.heap.objs.size + 1] → FpOk X pins H1 c := fun c hcm => by
        have e' : c = s1.heap.objs.size + 4 ∨ c = s1.heap.objs.size + 2 ∨ c = s1.heap.objs.size + 3 ∨ c = s1.heap.objs.size ∨ c = s1.heap.objs.size + 1 := by simpa using hcm
        have hle : s1.heap.objs.size ≤ c := by
          rcases e' with z | z | z | z | z
          · rw [z]; exact Nat.le_add_right _ _
          · rw [z]; exact Nat.le_add_right _ _
          · rw [z]; exact Nat.le_add_right _ _
          · rw [z]; exact Nat.le_refl _
          · rw [z]; exact Nat.le_add_right _ _
        exact I1.fpOk hle (I1.hok.fresh hle)
      obtain ⟨u1, o1, HH1, v1, la, B1, h1, m1, _⟩ := srcB I1 hx
      obtain ⟨u2, o2, HH2, v2, lb, B2, h2, m2, _⟩ := srcB I1 hy
      have Z : ZipSep2 (s1.heap.objs.size + 4) (s1.heap.objs.size + 2) (s1.heap.objs.size + 3) s1.heap.objs.size (s1.heap.objs.size + 1) (s1.heap.objs.size :: [a]) ((s1.heap.objs.size + 1) :: [b]) := zip_sep2 (fun c hc => by rw [List.mem_singleton.mp hc]; exact la) (fun c hc => by rw [List.mem_singleton.mp hc]; exact lb)
      refine zip_begins2 B1 B2 h1 h2 fun h' bz bT bO b1 b2 bs bk => wpAny_pyIter_zip bz ?_
      have I2 : Inv X pins σ H1 { s1 with heap := h' } := I1.kept (t' := s1.toks) bk
      exact ⟨s1.heap.objs.size + 4, [s1.heap.objs.size + 4, s1.heap.objs.size + 2, s1.heap.objs.size + 3, s1.heap.objs.size, s1.heap.objs.size + 1], _, _, H1, rfl, I2, turn_zipX Z (Nat.ne_of_lt la) (Nat.ne_of_lt (Nat.lt_succ_of_lt lb)), ⟨bz, bT, ⟨_, _, bO⟩, m1 h' _ b1, m2 h' _ b2⟩, fresh5, q⟩
end LZ

namespace DL
open PySem L2 RZ
/-! ## 9. Targets -/
theorem wipe_set_mem {σ : L2.St} {i : Nat} {v : V} : ∀ {ws : List Nat}, i ∈ ws → wipe (σ.set i (some v)) ws = wipe σ ws
  | [], h => by cases h
  | w :: ws, h => by
    by_cases hm : i ∈ ws
    · rw [wipe, wipe, wipe_set_mem hm]
    · have e : i = w := (List.mem_cons.mp h).resolve_right hm
      subst e
      rw [wipe, wipe]
      clear h
      have gen : ∀ (ws : List Nat), i ∉ ws → wipe (σ.set i (some v)) ws = (wipe σ ws).set i (some v) := fun ws => by
        induction ws with
        | nil => intro _; rfl
        | cons w ws ih =>
          intro h
          rw [wipe, wipe, ih (fun z => h (List.mem_cons_of_mem _ z)), List.set_comm _ _ (fun z => h (by rw [z]; exact List.mem_cons_self))]
      rw [gen ws hm, List.set_set]
abbrev TGd := PyData → DSt → (DSt → Prop) → Prop
structure DG (X : Cx) (vs : List Nat) (tg : Expr) (g : TGd) : Prop where
  ex : ∃ tg', PG X tg tg' ∧ ∀ (x : PyData) (v : V) (δ : DSt) (σ : L2.St) (O P : List Addr) (H : Hp) (Q' : DSt → Prop) (Q : L2.St → Hp → Prop), Rel δ σ O P H → Dq (frz (O ++ P) H) v x → g x δ Q' →
    (∀ δ' σ' O' H', Rel δ' σ' O' P H' → Stp O H O' H' → (∀ ws, (∀ i ∈ vs, i ∈ ws) → wipe σ' ws = wipe σ ws) → Q' δ' → Q σ' H') → tg' v σ H Q
abbrev TGsd := List PyData → DSt → (DSt → Prop) → Prop
structure DGs (X : Cx) (vs : List Nat) (tg : List Expr) (g : TGsd) : Prop where
  ex : ∃ tg', PGs X tg tg' ∧ ∀ (x : List PyData) (v : List V) (δ : DSt) (σ : L2.St) (O P : List Addr) (H : Hp) (Q' : DSt → Prop) (Q : L2.St → Hp → Prop), Rel δ σ O P H → DqAll (frz (O ++ P) H) v x → g x δ Q' →
    (∀ δ' σ' O' H', Rel δ' σ' O' P H' → Stp O H O' H' → (∀ ws, (∀ i ∈ vs, i ∈ ws) → wipe σ' ws = wipe σ ws) → Q' δ' → Q σ' H') → tg' v σ H Q
def gN (i : Nat) : TGd := fun x δ Q => i < δ.length ∧ Q (ss δ i (.d x))
def gNilD : TGsd := fun xs δ Q => xs = [] ∧ Q δ
def gConsD (g : TGd) (gs : TGsd) : TGsd := fun xs δ Q => match xs with
  | x :: r => g x δ fun δ1 => gs r δ1 Q
  | [] => False
def gTupD (n : Nat) (g : TGsd) : TGd := fun x δ Q => match x with
  | .tuple xs => xs.length = n ∧ g xs δ Q
  | .list xs => xs.length = n ∧ g xs δ Q
  | _ => False
theorem pg_or {X : Cx} {tg : Expr} {t u : TG} (h : PG X tg t) (h' : PG X tg u) : PG X tg (fun v σ H Q => t v σ H Q ∨ u v σ H Q) :=
  ⟨fun pins s σ H v u' Q I r q => q.elim (h.run pins s σ H v u' Q I r) (h'.run pins s σ H v u' Q I r)⟩
section
variable {X : Cx} {pos : Pos} {vs vs' : List Nat} {e : Expr} {es : List Expr} {g : TGd} {gg : TGsd}
theorem dg_name (i : Nat) {x : Str} (hN : X.N.Nodup) (hi : X.N[i]? = some x := by rfl) (hx : Loc X.env.scope x := by first | exact Or.inl rfl | exact Or.inr rfl) (hf : X.fn x = true ∨ X.env.scope.names.lookup x = some .local := by first | exact .inl rfl | exact .inr rfl) : DG X [i] (.Name x pos) (gN i) := by
  refine ⟨_, pg_name hN hi hx hf, fun x v δ σ O P H Q' Q I d h k => ?_⟩
  obtain ⟨hl, h⟩ := h
  rw [ss_eq] at h
  exact k _ _ O H (I.set_d d hl) .refl (fun ws hw => wipe_set_mem (hw i (by simp))) h
theorem dgs_nil : DGs X [] [] gNilD := ⟨_, pgs_nil, fun xs vs δ σ O P H Q' Q I d h k => by
  obtain ⟨rfl, h⟩ := h
  cases d
  exact ⟨rfl, k δ σ O H I .refl (fun _ _ => rfl) h⟩⟩
theorem dgs_cons (h1 : DG X vs e g) (h2 : DGs X vs' es gg) (hm : (assignEach (e :: es) X.env).map (·.2) = assign e X.env :: (assignEach es X.env).map (·.2) := by rfl) : DGs X (vs ++ vs') (e :: es) (gConsD g gg) := by
  obtain ⟨t, p, q⟩ := h1.ex
  obtain ⟨t', p', q'⟩ := h2.ex
  refine ⟨_, pgs_cons p p' hm, fun xs us δ σ O P H Q' Q I d h k => ?_⟩
  unfold gConsD at h
  split at h
  · rename_i x r
    cases d with
    | cons d1 d2 =>
      refine ⟨_, _, rfl, ?_⟩
      refine q x _ δ σ O P H _ _ I d1 h fun δ1 σ1 O1 H1 R1 s1 w1 h1 => ?_
      refine q' r _ δ1 σ1 O1 P H1 _ _ R1 (s1.dpa d2) h1 fun δ2 σ2 O2 H2 R2 s2 w2 h2 => ?_
      exact k δ2 σ2 O2 H2 R2 (s1.trans s2) (fun ws hw => (w2 ws fun i hi => hw i (List.mem_append_right _ hi)).trans (w1 ws fun i hi => hw i (List.mem_append_left _ hi))) h2
  · exact h.elim
theorem dg_tup {kk : Nat} {n : Nat} (hc : X.calm = true) (h : DGs X vs es gg) (hn : (assignEach es X.env).length = n := by rfl) (hst : (assignEach es X.env).findIdx? (·.1) = none := by rfl) : DG X vs (.Tuple es kk pos) (gTupD n gg) := by
  obtain ⟨t, p, q⟩ := h.ex
  refine ⟨_, pg_or (pg_tup hc p hn hst) (pg_lst hc p hn hst), fun x v δ σ O P H Q' Q I d h k => ?_⟩
  unfold gTupD at h
  split at h
  · cases d with
    | tup h1 h2 => exact .inl ⟨_, _, rfl, .inl (rd_le frz_le h1), by rw [dpa_len h2]; exact h.1, q _ _ δ σ O P H Q' Q I h2 h.2 k⟩
  · cases d with
    | lst h1 h2 => exact .inr ⟨_, _, rfl, .inl (rd_le frz_le h1), by rw [dpa_len h2]; exact h.1, q _ _ δ σ O P H Q' Q I h2 h.2 k⟩
  · exact h.elim
/-- x[e] = .., x a name whose slot holds its list alone -/
def gSubD (i : Nat) (t : TO') : TGd := fun x δ Q => (gs δ i).val ≠ none ∧ t δ (fun _ _ _ => False) fun o δ1 => match o.res δ1, gs δ1 i with
  | some (.int k), .o m xs => match ixN xs.length k with
    | some j => Q (ss δ1 i (.o m (xs.set j x)))
    | none => False
  | _, _ => False
theorem dg_sub (i : Nat) {o : Expr} {E : XS} {t : TO'} {x : Str} {p : Pos} (ho : DA X E o t) (hN : X.N[i]? = some x := by rfl) (hv : Vis X.env.scope x := by first | exact Or.inl rfl | exact Or.inr (Or.inl rfl) | exact Or.inr (Or.inr rfl)) (hd : (x == ("__debug__" : Str)) = false := by decide)
    (hcd : (x == ("__classdict__" : Str)) = false := by decide)
    (hs : ∀ v, assign (.Subscript (.Name x p) o pos) X.env v = (do
      let ov ← holding [v] (eval (.Name x p) X.env)
      let iv ← holding [v, ov] (eval o X.env)
      standAt pos
      holding [v, ov, iv] (setItem ov iv v)
      release [v, ov, iv] []) := by intro _; rfl) : DG X [] (.Subscript (.Name x p) o pos) (gSubD i t) := by
  obtain ⟨te, pe, q⟩ := ho.ex
  refine ⟨_, pg_sub (pe_var hN hv hd hcd) pe set_list hs, fun y v δ σ O P H Q' Q I d h k => ?_⟩
  obtain ⟨n, h⟩ := h
  have look : ∃ u, σ[i]? = some (some u) := by
    cases g : gs δ i with
    | un => rw [g] at n; exact (n rfl).elim
    | d z => obtain ⟨u, h1, _⟩ := I.dat i _ (gs_d g); exact ⟨u, h1⟩
    | o m zs => obtain ⟨a, _, h1, _⟩ := I.own i _ _ (gs_o g); exact ⟨_, h1⟩
  obtain ⟨u, hu⟩ := look
  refine ⟨u, hu, ?_⟩
  refine q δ σ O P H _ _ _ I .no h fun o' v' δ1 O1 H1 R1 a1 s1 h1 => ?_
  split at h1
  · rename_i kx m xs e1 e2
    cases (a1.lq R1 e1).int
    obtain ⟨a, ws, g1, _, g3, g4, g5⟩ := R1.own i _ _ (gs_o e2)
    rw [hu] at g1; cases g1
    split at h1
    · rename_i j ej
      refine ⟨a, ws, kx, j, rfl, rfl, g4, by rw [dpa_len g5]; exact ej, ?_⟩
      obtain ⟨R2, s2⟩ := R1.chg (gs_o e2) hu (dpa_set j g5 (s1.dp d))
      rw [ss_eq] at h1
      exact k _ σ O1 _ R2 (s1.trans s2) (fun _ _ => rfl) h1
    · exact h1.elim
  · exact h1.elim
end
/-! ## 10. What is walked -/
def ItD (J : It) (xs : List PyData) (O P : List Addr) (H : Hp) : Prop := ∀ (O2 : List Addr) (H2 : Hp), Le (frz (O ++ P) H) (frz (O2 ++ P) H2) → (∀ a, a ∈ O2 ++ P → H2 a ≠ none) → ∀ (i : Nat),
  (∀ x, xs[i]? = some x → J.go i H2 ∧ ∀ v H3, J.yld i H2 v H3 → Dq (frz (O2 ++ P) H3) v x ∧ (H3 = H2 ∨ ∃ T o, H2 T = none ∧ H3 = upd H2 T o)) ∧ (xs.length = i → J.stop i H2)
structure DI (X : Cx) (E : XS) (tg iter : Expr) (t : TDs) : Prop where
  ex : ∃ wi, PI X tg iter wi ∧ ∀ (δ : DSt) (σ : L2.St) (O P : List Addr) (H : Hp) (R : RX) (Q' : List PyData → DSt → Prop) (Q : It → Hp → Prop), Rel δ σ O P H → ExW E O P H R → t δ R Q' →
    (∀ J xs δ' O' H', Rel δ' σ O' P H' → Stp O H O' H' → ItD J xs O' P H' → Q' xs δ' → Q J H') → wi σ H Q
theorem rd_stp {O O2 P : List Addr} {H H2 : Hp} {a : Addr} {u : HO} (h : Rd (frz (O ++ P) H) a u) (s : Stp O H O2 H2) : Rd (frz (O2 ++ P) H2) a u := rd_le s.le h
section
variable {K : PySem.W.Frag}
theorem itl_inj {H : Hp} {a : Addr} {xs ys : List V} (h : Rd H a (.lst xs)) (h' : Rd H a (.lst ys)) : xs = ys := by
  rcases h with h | ⟨o, h⟩ <;> rcases h' with h' | ⟨o', h'⟩ <;> rw [h] at h' <;> cases h' <;> rfl
theorem itt_inj {H : Hp} {a : Addr} {xs ys : List V} (h : Rd H a (.tup xs)) (h' : Rd H a (.tup ys)) : xs = ys := by
  rcases h with h | ⟨o, h⟩ <;> rcases h' with h' | ⟨o', h'⟩ <;> rw [h] at h' <;> cases h' <;> rfl
theorem itd_list {O P : List Addr} {H : Hp} {a : Addr} {vs : List V} {xs : List PyData} (h : Rd (frz (O ++ P) H) a (.lst vs)) (d : DqAll (frz (O ++ P) H) vs xs) : ItD (Itl K a) xs O P H := fun O2 H2 s _ i => by
  have h2 : Rd H2 a (.lst vs) := rd_le frz_le (rd_le s h)
  have d2 := dpa_le s _ _ d
  refine ⟨fun x e => ?_, fun e => ⟨vs, .inl h2, by rw [dpa_len d]; exact Nat.le_of_eq e⟩⟩
  obtain ⟨v, e1, e2⟩ := dpa_get d2 e
  refine ⟨⟨vs, v, .inl h2, e1⟩, fun w H3 y => ?_⟩
  obtain ⟨y1, y2⟩ := y
  subst y1
  have y3 := y2 vs (.inl h2)
  rw [e1] at y3; cases y3
  exact ⟨e2, .inl rfl⟩
theorem itd_tup {O P : List Addr} {H : Hp} {a : Addr} {vs : List V} {xs : List PyData} (h : Rd (frz (O ++ P) H) a (.tup vs)) (d : DqAll (frz (O ++ P) H) vs xs) : ItD (Itt K a) xs O P H := fun O2 H2 s _ i => by
  have h2 : Rd H2 a (.tup vs) := rd_le frz_le (rd_le s h)
  have d2 := dpa_le s _ _ d
  refine ⟨fun x e => ?_, fun e => ⟨vs, .inl h2, by rw [dpa_len d]; exact Nat.le_of_eq e⟩⟩
  obtain ⟨v, e1, e2⟩ := dpa_get d2 e
  refine ⟨⟨vs, v, .inl h2, e1⟩, fun w H3 y => ?_⟩
  obtain ⟨y1, y2⟩ := y
  subst y1
  have y3 := y2 vs (.inl h2)
  rw [e1] at y3; cases y3
  exact ⟨e2, .inl rfl⟩
/-- lo, lo + 1, .. (n of them) -/
def rangeD (lo : Int) : Nat → List PyData
  | 0 => []
  | n + 1 => .int lo :: rangeD (lo + 1) n
theorem rangeD_len : ∀ (n : Nat) (lo : Int), (rangeD lo n).length = n
  | 0, _ => rfl
  | n + 1, lo => by rw [rangeD, List.length_cons, rangeD_len n]
theorem rangeD_get : ∀ (n : Nat) (lo : Int) (i : Nat), i < n → (rangeD lo n)[i]? = some (.int (lo + i))
  | 0, _, _, h => by omega
  | n + 1, lo, 0, _ => by simp [rangeD]
  | n + 1, lo, i + 1, h => by
    rw [rangeD, List.getElem?_cons_succ, rangeD_get n (lo + 1) i (by omega)]
    congr 2
    omega
theorem itd_rng {O P : List Addr} {H : Hp} {lo : Int} {n : Nat} : ItD (Itr lo n) (rangeD lo n) O P H := fun O2 H2 s _ i => by
  refine ⟨fun x e => ?_, fun e => by rw [rangeD_len] at e; exact Nat.le_of_eq e⟩
  have hi : i < n := by
    have := (List.getElem?_eq_some_iff.mp e).1
    rwa [rangeD_len] at this
  rw [rangeD_get n lo i hi] at e
  cases e
  refine ⟨hi, fun w H3 y => ?_⟩
  obtain ⟨y1, y2⟩ := y
  subst y1 y2
  exact ⟨.int _, .inl rfl⟩
def zipD : List PyData → List PyData → List PyData
  | x :: xs, y :: ys => .tuple [x, y] :: zipD xs ys
  | _, _ => []
theorem zipD_get : ∀ (xs ys : List PyData) (i : Nat) (z : PyData), (zipD xs ys)[i]? = some z → ∃ x y, xs[i]? = some x ∧ ys[i]? = some y ∧ z = .tuple [x, y]
  | [], _, _, _, e => by simp [zipD] at e
  | _ :: _, [], _, _, e => by simp [zipD] at e
  | x :: xs, y :: ys, 0, z, e => by simp [zipD] at e; exact ⟨x, y, rfl, rfl, e.symm⟩
  | x :: xs, y :: ys, i + 1, z, e => by
    simp only [zipD, List.getElem?_cons_succ] at e
    obtain ⟨a, b, h1, h2, h3⟩ := zipD_get xs ys i z e
    exact ⟨a, b, by simpa using h1, by simpa using h2, h3⟩
theorem zipD_len : ∀ (xs ys : List PyData), (zipD xs ys).length = min xs.length ys.length
  | [], ys => by simp [zipD]
  | _ :: _, [] => by simp [zipD]
  | x :: xs, y :: ys => by simp only [zipD, List.length_cons, zipD_len xs ys]; omega
def enumD : Nat → List PyData → List PyData
  | _, [] => []
  | k, x :: xs => .tuple [.int (k : Nat), x] :: enumD (k + 1) xs
theorem enumD_get : ∀ (k : Nat) (xs : List PyData) (i : Nat), (enumD k xs)[i]? = xs[i]?.map fun x => .tuple [.int ((k + i : Nat) : Int), x]
  | k, [], i => by simp [enumD]
  | k, x :: xs, 0 => by simp [enumD]
  | k, x :: xs, i + 1 => by
    simp only [enumD, List.getElem?_cons_succ]
    rw [enumD_get (k + 1) xs i]
    have e : k + 1 + i = k + (i + 1) := by omega
    rw [e]
theorem enumD_len : ∀ (k : Nat) (xs : List PyData), (enumD k xs).length = xs.length
  | _, [] => rfl
  | k, x :: xs => by rw [enumD, List.length_cons, enumD_len, List.length_cons]
theorem dq_pair {Z : List Addr} {H : Hp} {T : Addr} {u v : V} {x y : PyData} (n : H T = none) (hT : T ∉ Z) (a : Dq (frz Z H) u x) (b : Dq (frz Z H) v y) : Dq (frz Z (upd H T (.tup [u, v]))) (.ref T) (.tuple [x, y]) :=
  .tup (.inl (frz_some.mpr ⟨hT, upd_same⟩)) (.cons (dp_le (frz_new n) _ _ a) (.cons (dp_le (frz_new n) _ _ b) .nil))
theorem itd_zipL {O P : List Addr} {H : Hp} {a b : Addr} {vs ws : List V} {xs ys : List PyData} (h : Rd (frz (O ++ P) H) a (.lst vs)) (d : DqAll (frz (O ++ P) H) vs xs) (h' : Rd (frz (O ++ P) H) b (.lst ws)) (d' : DqAll (frz (O ++ P) H) ws ys) : ItD (Itz K a b) (zipD xs ys) O P H := fun O2 H2 s tr i => by
  have h2 : Rd H2 a (.lst vs) := rd_le frz_le (rd_le s h)
  have h2' : Rd H2 b (.lst ws) := rd_le frz_le (rd_le s h')
  refine ⟨fun z e => ?_, fun e => ⟨vs, ws, .inl h2, .inl h2', by rw [zipD_len] at e; rw [dpa_len d, dpa_len d']; omega⟩⟩
  obtain ⟨x, y, ex, ey, rfl⟩ := zipD_get xs ys i z e
  obtain ⟨v, e1, e2⟩ := dpa_get (dpa_le s _ _ d) ex
  obtain ⟨w, f1, f2⟩ := dpa_get (dpa_le s _ _ d') ey
  refine ⟨⟨vs, ws, v, w, .inl h2, .inl h2', e1, f1⟩, fun u H3 yl => ?_⟩
  obtain ⟨T, x', y', rfl, nT, rfl, z1, z2⟩ := yl
  have z1' := z1 vs (.inl h2)
  have z2' := z2 ws (.inl h2')
  rw [e1] at z1'; cases z1'
  rw [f1] at z2'; cases z2'
  exact ⟨dq_pair nT (fun m => tr T m nT) e2 f2, .inr ⟨T, _, nT, rfl⟩⟩
theorem itd_zipT {O P : List Addr} {H : Hp} {a b : Addr} {vs ws : List V} {xs ys : List PyData} (h : Rd (frz (O ++ P) H) a (.tup vs)) (d : DqAll (frz (O ++ P) H) vs xs) (h' : Rd (frz (O ++ P) H) b (.tup ws)) (d' : DqAll (frz (O ++ P) H) ws ys) : ItD (ItzT K a b) (zipD xs ys) O P H := fun O2 H2 s tr i => by
  have h2 : Rd H2 a (.tup vs) := rd_le frz_le (rd_le s h)
  have h2' : Rd H2 b (.tup ws) := rd_le frz_le (rd_le s h')
  refine ⟨fun z e => ?_, fun e => ⟨vs, ws, .inl h2, .inl h2', by rw [zipD_len] at e; rw [dpa_len d, dpa_len d']; omega⟩⟩
  obtain ⟨x, y, ex, ey, rfl⟩ := zipD_get xs ys i z e
  obtain ⟨v, e1, e2⟩ := dpa_get (dpa_le s _ _ d) ex
  obtain ⟨w, f1, f2⟩ := dpa_get (dpa_le s _ _ d') ey
  refine ⟨⟨vs, ws, v, w, .inl h2, .inl h2', e1, f1⟩, fun u H3 yl => ?_⟩
  obtain ⟨T, x', y', rfl, nT, rfl, z1, z2⟩ := yl
  have z1' := z1 vs (.inl h2)
  have z2' := z2 ws (.inl h2')
  rw [e1] at z1'; cases z1'
  rw [f1] at z2'; cases z2'
  exact ⟨dq_pair nT (fun m => tr T m nT) e2 f2, .inr ⟨T, _, nT, rfl⟩⟩
def RdB (t : Bool) (H : Hp) (a : Addr) (vs : List V) : Prop := match t with
  | true => Rd H a (.tup vs)
  | false => Rd H a (.lst vs)
theorem rdb_le {t : Bool} {H H' : Hp} {a : Addr} {vs : List V} (s : Le H H') (h : RdB t H a vs) : RdB t H' a vs := by
  cases t with
  | true => exact rd_le s h
  | false => exact rd_le s h
theorem rdb_sq {t : Bool} {H : Hp} {a : Addr} {vs : List V} (h : RdB t H a vs) : LZ.SqB t K H a vs := by
  cases t with
  | true => exact .inl h
  | false => exact .inl h
theorem itd_zipX {t u : Bool} {O P : List Addr} {H : Hp} {a b : Addr} {vs ws : List V} {xs ys : List PyData} (h : RdB t (frz (O ++ P) H) a vs) (d : DqAll (frz (O ++ P) H) vs xs) (h' : RdB u (frz (O ++ P) H) b ws) (d' : DqAll (frz (O ++ P) H) ws ys) : ItD (LZ.ItzX t u K a b) (zipD xs ys) O P H := fun O2 H2 s tr i => by
  have h2 : RdB t H2 a vs := rdb_le frz_le (rdb_le s h)
  have h2' : RdB u H2 b ws := rdb_le frz_le (rdb_le s h')
  refine ⟨fun z e => ?_, fun e => ⟨vs, ws, rdb_sq h2, rdb_sq h2', by rw [zipD_len] at e; rw [dpa_len d]; omega, by rw [zipD_len] at e; rw [dpa_len d']; omega, by rw [zipD_len] at e; rw [dpa_len d, dpa_len d']; omega⟩⟩
  obtain ⟨x, y, ex, ey, rfl⟩ := zipD_get xs ys i z e
  obtain ⟨v, e1, e2⟩ := dpa_get (dpa_le s _ _ d) ex
  obtain ⟨w, f1, f2⟩ := dpa_get (dpa_le s _ _ d') ey
  refine ⟨⟨vs, ws, v, w, rdb_sq h2, rdb_sq h2', e1, f1⟩, fun u' H3 yl => ?_⟩
  obtain ⟨T, x', y', rfl, nT, rfl, z1, z2⟩ := yl
  have z1' := z1 vs (rdb_sq h2)
  have z2' := z2 ws (rdb_sq h2')
  rw [e1] at z1'; cases z1'
  rw [f1] at z2'; cases z2'
  exact ⟨dq_pair nT (fun m => tr T m nT) e2 f2, .inr ⟨T, _, nT, rfl⟩⟩
theorem itd_enum {O P : List Addr} {H : Hp} {a : Addr} {vs : List V} {xs : List PyData} (h : Rd (frz (O ++ P) H) a (.lst vs)) (d : DqAll (frz (O ++ P) H) vs xs) : ItD (Ite K a) (enumD 0 xs) O P H := fun O2 H2 s tr i => by
  have h2 : Rd H2 a (.lst vs) := rd_le frz_le (rd_le s h)
  refine ⟨fun z e => ?_, fun e => ⟨vs, .inl h2, by rw [enumD_len] at e; rw [dpa_len d]; exact Nat.le_of_eq e⟩⟩
  rw [enumD_get] at e
  cases ex : xs[i]? with
  | none => rw [ex] at e; cases e
  | some x =>
    rw [ex] at e
    cases e
    obtain ⟨v, e1, e2⟩ := dpa_get (dpa_le s _ _ d) ex
    refine ⟨⟨vs, v, .inl h2, e1⟩, fun u H3 yl => ?_⟩
    obtain ⟨T, x', rfl, nT, rfl, z1⟩ := yl
    have z1' := z1 vs (.inl h2)
    rw [e1] at z1'; cases z1'
    have e0 : ((0 + i : Nat) : Int) = ((i : Nat) : Int) := by simp
    rw [e0]
    exact ⟨dq_pair nT (fun m => tr T m nT) (.int _) e2, .inr ⟨T, _, nT, rfl⟩⟩
end
section
variable {X : Cx} {E : XS} {tg e e2 : Expr} {pos p tpos : Pos} {te te2 : TD} {oa ob : TO'} {elts : List Expr} {kk : Nat}
/-- a list or tuple -/
def iSeq (t : TD) : TDs := fun δ R Q => t δ R fun r δ1 => match r.val with
  | .list xs => Q xs δ1
  | .tuple xs => Q xs δ1
  | _ => False
def iSeqV (K : PySem.W.Frag) (tl : TE) : TI := fun σ H R => tl σ H fun x H1 => ∃ a, x = .ref a ∧ ((∃ xs, SqL K H1 a xs ∧ R (Itl K a) H1) ∨ ∃ xs, SqT K H1 a xs ∧ R (Itt K a) H1)
theorem pi_seqV {l : Expr} {tl : TE} (hl : PE X l tl) : PI X tg l (iSeqV X.K tl) := by
  refine ⟨fun pins s σ H R I h => ?_⟩
  refine thn (hl.run pins s σ H _ I h) fun v s1 ⟨x, H1, I1, r1, q1⟩ => ?_
  obtain ⟨a, e, q⟩ := q1
  subst e
  cases r1
  have fr : ∀ b, b ∈ [s1.heap.objs.size] → FpOk X pins H1 b := fun b hb => by
    simp only [List.mem_singleton] at hb
    subst hb
    exact I1.fpOk (Nat.le_refl _) (I1.hok.fresh (Nat.le_refl _))
  rcases q with ⟨xs, hq, q⟩ | ⟨xs, hq, q⟩
  · obtain ⟨its, rv, p, hz⟩ := I1.list hq
    exact wpAny_pyIter_list p.isList ⟨s1.heap.objs.size, [s1.heap.objs.size], _, _, H1, rfl, I1.kept (t' := s1.toks) fun b o e => Heap.get?_push_of_some _ e, turn_list a _, ⟨_, Heap.get?_push_size _ rfl, rfl, rfl⟩, fr, q⟩
  · obtain ⟨its, rv, p, hz⟩ := I1.tuple hq
    exact wpAny_pyIter_tuple (show s1.heap.IsTuple a its.toArray from p) ⟨s1.heap.objs.size, [s1.heap.objs.size], _, _, H1, rfl, I1.kept (t' := s1.toks) fun b o e => Heap.get?_push_of_some _ e, turn_tuple a _, ⟨_, Heap.get?_push_size _ rfl, rfl, rfl⟩, fr, q⟩
theorem di_seq (h : DE X E e te) : DI X E tg e (iSeq te) := by
  obtain ⟨t, pt, q⟩ := h.ex
  refine ⟨_, pi_seqV pt, fun δ σ O P H R Q' Q I w h k => ?_⟩
  refine q δ σ O P H R _ _ I w h fun r v δ1 O1 H1 g s1 h1 => ?_
  obtain ⟨O2, R2, d, s2⟩ := g.share s1
  split at h1
  · rename_i xs e
    rw [e] at d
    cases d with
    | lst h1' h2' => exact ⟨_, rfl, .inl ⟨_, .inl (rd_le frz_le h1'), k _ xs δ1 O2 H1 R2 s2 (itd_list h1' h2') h1⟩⟩
  · rename_i xs e
    rw [e] at d
    cases d with
    | tup h1' h2' => exact ⟨_, rfl, .inr ⟨_, .inl (rd_le frz_le h1'), k _ xs δ1 O2 H1 R2 s2 (itd_tup h1' h2') h1⟩⟩
  · exact h1.elim
/-- range(n), range(a, b) -/
def okRg (i : Int) : Prop := -(2 ^ 62) ≤ i ∧ i < 2 ^ 62
def iRange1 (t : TO') : TDs := fun δ R Q => t δ R fun o δ1 => match o.res δ1 with
  | some (.int n) => okRg n ∧ Q (rangeD 0 n.toNat) δ1
  | _ => False
def iRange2 (ta tb : TO') : TDs := fun δ R Q => ta δ R fun o δ1 => tb δ1 R fun o' δ2 => match o.res δ2, o'.res δ2 with
  | some (.int a), some (.int b) => okRg a ∧ okRg b ∧ Q (rangeD a (b - a).toNat) δ2
  | _, _ => False
theorem di_range1 (hg : Gl X "range") (hm : X.mg "range" = none) (ha : DA X E e oa) (hs : starEach [e] X.env = (false, eval e X.env) :: starEach [] X.env := by rfl) (hs' : starEach [e] X.env = [(false, eval e X.env)] := by rfl) : DI X E tg (.Call (.Name "range" p) [e] [] pos) (iRange1 oa) := by
  obtain ⟨t, pt, q⟩ := ha.ex
  refine ⟨_, pi_range1 hg hm (pa_cons pt pa_nil hs) hs', fun δ σ O P H R Q' Q I w h k => ?_⟩
  refine q δ σ O P H R _ _ I w h fun o v δ1 O1 H1 R1 a1 s1 h1 => ?_
  split at h1
  · rename_i n e1
    cases (a1.lq R1 e1).int
    exact ⟨n, rfl, h1.1.1, h1.1.2, k _ _ δ1 O1 H1 R1 s1 itd_rng h1.2⟩
  · exact h1.elim
theorem di_range2 (hg : Gl X "range") (hm : X.mg "range" = none) (ha : DA X E e oa) (hb : DA X E e2 ob) (hs0 : starEach (e :: [e2]) X.env = (false, eval e X.env) :: starEach [e2] X.env := by rfl) (hs1 : starEach [e2] X.env = (false, eval e2 X.env) :: starEach [] X.env := by rfl)
    (hs : starEach [e, e2] X.env = [(false, eval e X.env), (false, eval e2 X.env)] := by rfl) (hs2 : starEach [e2] X.env = [(false, eval e2 X.env)] := by rfl) : DI X E tg (.Call (.Name "range" p) [e, e2] [] pos) (iRange2 oa ob) := by
  obtain ⟨t, pt, q⟩ := ha.ex
  obtain ⟨t', pt', q'⟩ := hb.ex
  refine ⟨_, pi_range2 hg hm (pa_cons pt (pa_cons pt' pa_nil hs1) hs0) hs hs2, fun δ σ O P H R Q' Q I w h k => ?_⟩
  refine q δ σ O P H R _ _ I w h fun o v δ1 O1 H1 R1 a1 s1 h1 => ?_
  refine q' δ1 σ O1 P H1 R _ _ R1 (w.step s1) h1 fun o' v' δ2 O2 H2 R2 a2 s2 h2 => ?_
  have a1' := a1.step s2
  split at h2
  · rename_i a b e1 e2
    cases (a1'.lq R2 e1).int
    cases (a2.lq R2 e2).int
    exact ⟨a, b, rfl, ⟨h2.1.1, h2.1.2, h2.2.1.1, h2.2.1.2⟩, k _ _ δ2 O2 H2 R2 (s1.trans s2) itd_rng h2.2.2⟩
  · exact h2.elim
/-- enumerate(list); zip of two lists, of two tuples -/
def iEnumD (t : TD) : TDs := fun δ R Q => t δ R fun r δ1 => match r.val with
  | .list xs => Q (enumD 0 xs) δ1
  | _ => False
theorem di_enum (hg : Gl X "enumerate") (hm : X.mg "enumerate" = none) (ha : DE X E e te) (hs : starEach [e] X.env = (false, eval e X.env) :: starEach [] X.env := by rfl) (hs' : starEach [e] X.env = [(false, eval e X.env)] := by rfl) :
    DI X E (.Tuple elts kk tpos) (.Call (.Name "enumerate" p) [e] [] pos) (iEnumD te) := by
  obtain ⟨t, pt, q⟩ := ha.ex
  refine ⟨_, pi_enum hg hm (pa_cons pt pa_nil hs) hs', fun δ σ O P H R Q' Q I w h k => ?_⟩
  refine q δ σ O P H R _ _ I w h fun r v δ1 O1 H1 g s1 h1 => ?_
  obtain ⟨O2, R2, d, s2⟩ := g.share s1
  split at h1
  · rename_i xs e
    rw [e] at d
    cases d with
    | lst h1' h2' => exact ⟨_, _, rfl, .inl (rd_le frz_le h1'), k _ _ δ1 O2 H1 R2 s2 (itd_enum h1' h2') h1⟩
  · exact h1.elim
def iZipD (ta tb : TD) : TDs := fun δ R Q => ta δ R fun r δ1 => tb δ1 R fun r' δ2 => match r.val, r'.val with
  | .list xs, .list ys => Q (zipD xs ys) δ2
  | .tuple xs, .tuple ys => Q (zipD xs ys) δ2
  | .list xs, .tuple ys => Q (zipD xs ys) δ2
  | .tuple xs, .list ys => Q (zipD xs ys) δ2
  | _, _ => False
theorem di_zip (hg : Gl X "zip") (hm : X.mg "zip" = none) (ha : DE X E e te) (hb : DE X E e2 te2) (hs0 : starEach (e :: [e2]) X.env = (false, eval e X.env) :: starEach [e2] X.env := by rfl) (hs1 : starEach [e2] X.env = (false, eval e2 X.env) :: starEach [] X.env := by rfl)
    (hpl : (backTo pos (starEach [e2] X.env)).any (·.1) = false := by rfl) :
    DI X E (.Tuple elts kk tpos) (.Call (.Name "zip" p) [e, e2] [] pos) (iZipD te te2) := by
  obtain ⟨t, pt, q⟩ := ha.ex
  obtain ⟨t', pt', q'⟩ := hb.ex
  refine ⟨_, LZ.pi_zipX hg hm (pa_cons pt (pa_cons pt' pa_nil hs1) hs0) hs0 hpl, fun δ σ O P H R Q' Q I w h k => ?_⟩
  refine q δ σ O P H R _ _ I w h fun r v δ1 O1 H1 g s1 h1 => ?_
  obtain ⟨O2, R2, d, s2⟩ := g.share s1
  refine q' δ1 σ O2 P H1 R _ _ R2 (w.step s2) h1 fun r' v' δ2 O3 H2 g' s3 h2 => ?_
  obtain ⟨O4, R4, d', s4⟩ := g'.share s3
  have d2 := s4.dp d
  have go : ∀ (t u : Bool) (a b : Addr) (vs ws : List V) (xs ys : List PyData), v = .ref a → v' = .ref b → RdB t (frz (O4 ++ P) H2) a vs → RdB u (frz (O4 ++ P) H2) b ws → DqAll (frz (O4 ++ P) H2) vs xs → DqAll (frz (O4 ++ P) H2) ws ys → Q' (zipD xs ys) δ2 →
      ∃ t u a b xs ys, [v, v'] = [V.ref a, V.ref b] ∧ LZ.SqB t X.K H2 a xs ∧ LZ.SqB u X.K H2 b ys ∧ Q (LZ.ItzX t u X.K a b) H2 := fun t u a b vs ws xs ys e1 e2 r1 r2 d1 d2 h =>
    ⟨t, u, a, b, vs, ws, by rw [e1, e2], rdb_sq (rdb_le frz_le r1), rdb_sq (rdb_le frz_le r2), k _ _ δ2 O4 H2 R4 (s2.trans s4) (itd_zipX r1 d1 r2 d2) h⟩
  split at h2
  · rename_i xs ys e1 e2
    rw [e1] at d2
    rw [e2] at d'
    cases d2 with
    | lst h1' h2' =>
      cases d' with
      | lst h3' h4' => exact go false false _ _ _ _ _ _ rfl rfl h1' h3' h2' h4' h2
  · rename_i xs ys e1 e2
    rw [e1] at d2
    rw [e2] at d'
    cases d2 with
    | tup h1' h2' =>
      cases d' with
      | tup h3' h4' => exact go true true _ _ _ _ _ _ rfl rfl h1' h3' h2' h4' h2
  · rename_i xs ys e1 e2
    rw [e1] at d2
    rw [e2] at d'
    cases d2 with
    | lst h1' h2' =>
      cases d' with
      | tup h3' h4' => exact go false true _ _ _ _ _ _ rfl rfl h1' h3' h2' h4' h2
  · rename_i xs ys e1 e2
    rw [e1] at d2
    rw [e2] at d'
    cases d2 with
    | tup h1' h2' =>
      cases d' with
      | lst h3' h4' => exact go true false _ _ _ _ _ _ rfl rfl h1' h3' h2' h4' h2
  · exact h2.elim
end
end DL

namespace DL
open PySem L2 RZ
/-! ## 11. Comprehensions -/
def wipeD (δ : DSt) : List Nat → DSt
  | [] => δ
  | v :: vs => ss (wipeD δ vs) v .un
@[reducible] def Sl.keepD : Sl → Sl
  | .o _ _ => .un
  | s => s
def restD (δ0 δ : DSt) : List Nat → DSt
  | [] => δ
  | v :: vs => ss (restD δ0 δ vs) v (gs δ0 v).keepD
theorem ss_length (δ : DSt) (i : Nat) (y : Sl) : (ss δ i y).length = δ.length := by rw [ss_eq, List.length_set]
theorem wipeD_length (δ : DSt) : ∀ vs, (wipeD δ vs).length = δ.length
  | [] => rfl
  | v :: vs => by rw [wipeD, ss_length, wipeD_length δ vs]
theorem restD_length (δ0 δ : DSt) : ∀ vs, (restD δ0 δ vs).length = δ.length
  | [] => rfl
  | v :: vs => by rw [restD, ss_length, restD_length δ0 δ vs]
theorem wipeD_get {δ : DSt} {i : Nat} : ∀ {vs : List Nat}, i ∉ vs → (wipeD δ vs)[i]? = δ[i]?
  | [], _ => rfl
  | v :: vs, h => by
    simp only [List.mem_cons, not_or] at h
    rw [wipeD, ss_eq, List.getElem?_set_ne (Ne.symm h.1), wipeD_get h.2]
theorem wipeD_un {δ : DSt} {i : Nat} {y : Sl} : ∀ {vs : List Nat}, (wipeD δ vs)[i]? = some y → y ≠ .un → i ∉ vs
  | [], _, _, h => by cases h
  | v :: vs, e, n, h => by
    rw [wipeD, ss_eq] at e
    by_cases hv : v = i
    · subst hv
      by_cases hl : v < (wipeD δ vs).length
      · rw [List.getElem?_set_self hl] at e; exact n (Option.some.inj e).symm
      · rw [List.getElem?_eq_none (by simpa using hl)] at e; cases e
    · rw [List.getElem?_set_ne hv] at e
      rcases List.mem_cons.mp h with z | z
      · exact hv z.symm
      · exact wipeD_un e n z
theorem wipe_get {σ : L2.St} {i : Nat} : ∀ {vs : List Nat}, i ∉ vs → (wipe σ vs)[i]? = σ[i]?
  | [], _ => rfl
  | v :: vs, h => by
    simp only [List.mem_cons, not_or] at h
    rw [wipe, List.getElem?_set_ne (Ne.symm h.1), wipe_get h.2]
theorem wipe_wipe {σ : L2.St} {vs : List Nat} : wipe (wipe σ vs) vs = wipe σ vs := by
  refine List.ext_getElem? fun i => ?_
  by_cases h : i ∈ vs
  · have one : ∀ (τ : L2.St) (ws : List Nat), i ∈ ws → (wipe τ ws)[i]? = if i < τ.length then some none else none := fun τ ws => by
      induction ws with
      | nil => intro h; cases h
      | cons w ws ih =>
        intro h
        rw [wipe]
        by_cases hw : w = i
        · subst hw
          by_cases hl : w < (wipe τ ws).length
          · rw [List.getElem?_set_self hl, if_pos (by rwa [wipe_length] at hl)]
          · rw [List.getElem?_eq_none (by simpa using hl), if_neg (by rwa [wipe_length] at hl)]
        · rw [List.getElem?_set_ne hw]
          exact ih ((List.mem_cons.mp h).resolve_left fun z => hw z.symm)
    rw [one _ _ h, one _ _ h, wipe_length]
  · rw [wipe_get h]
theorem restD_get {δ0 δ : DSt} {i : Nat} : ∀ {vs : List Nat}, i ∉ vs → (restD δ0 δ vs)[i]? = δ[i]?
  | [], _ => rfl
  | v :: vs, h => by
    simp only [List.mem_cons, not_or] at h
    rw [restD, ss_eq, List.getElem?_set_ne (Ne.symm h.1), restD_get h.2]
theorem restD_in {δ0 δ : DSt} {i : Nat} {y : Sl} : ∀ {vs : List Nat}, i ∈ vs → (restD δ0 δ vs)[i]? = some y → y = (gs δ0 i).keepD
  | [], h, _ => by cases h
  | v :: vs, h, e => by
    rw [restD, ss_eq] at e
    by_cases hv : v = i
    · subst hv
      by_cases hl : v < (restD δ0 δ vs).length
      · rw [List.getElem?_set_self hl] at e; exact (Option.some.inj e).symm
      · rw [List.getElem?_eq_none (by simpa using hl)] at e; cases e
    · rw [List.getElem?_set_ne hv] at e
      exact restD_in ((List.mem_cons.mp h).resolve_left fun z => hv z.symm) e
section
variable {δ δ0 : DSt} {σ : L2.St} {O P : List Addr} {H : Hp} {D : Addr}
theorem Rel.wiped (R : Rel δ σ O P H) (vs : List Nat) : Rel (wipeD δ vs) (wipe σ vs) O P H where
  len := by rw [wipe_length, wipeD_length]; exact R.len
  dat := fun i x e => by
    have n := wipeD_un e (fun z => nomatch z)
    rw [wipeD_get n] at e
    obtain ⟨v, a, b⟩ := R.dat i x e
    exact ⟨v, by rw [wipe_get n]; exact a, b⟩
  own := fun i m xs e => by
    have n := wipeD_un e (fun z => nomatch z)
    rw [wipeD_get n] at e
    obtain ⟨a, ws, h1, h2⟩ := R.own i m xs e
    exact ⟨a, ws, by rw [wipe_get n]; exact h1, h2⟩
  inj := fun i j m n xs ys a ei ej si sj => by
    have ni := wipeD_un ei (fun z => nomatch z)
    have nj := wipeD_un ej (fun z => nomatch z)
    rw [wipeD_get ni] at ei
    rw [wipeD_get nj] at ej
    rw [wipe_get ni] at si
    rw [wipe_get nj] at sj
    exact R.inj i j m n xs ys a ei ej si sj
  trk := R.trk
  dis := R.dis
/-- behind a comprehension: its own names are as they were -/
theorem Rel.rested {vs : List Nat} (R : Rel (wipeD δ vs) (wipe σ vs) O P H) (h0 : ∀ i x, i ∈ vs → gs δ0 i = .d x → ∃ v, σ[i]? = some (some v) ∧ Dq (frz (O ++ P) H) v x) : Rel (restD δ0 δ vs) σ O P H where
  len := by rw [restD_length, ← wipeD_length δ vs, ← R.len, wipe_length]
  dat := fun i x e => by
    by_cases n : i ∈ vs
    · have q := restD_in n e
      cases g : gs δ0 i with
      | un => rw [g] at q; cases q
      | d y => rw [g] at q; cases q; exact h0 i _ n g
      | o m ys => rw [g] at q; cases q
    · rw [restD_get n, ← wipeD_get n] at e
      obtain ⟨v, a, b⟩ := R.dat i x e
      exact ⟨v, by rw [wipe_get n] at a; exact a, b⟩
  own := fun i m xs e => by
    by_cases n : i ∈ vs
    · have q := restD_in n e
      cases g : gs δ0 i with
      | un => rw [g] at q; cases q
      | d y => rw [g] at q; cases q
      | o m ys => rw [g] at q; cases q
    · rw [restD_get n, ← wipeD_get n] at e
      obtain ⟨a, ws, h1, h2⟩ := R.own i m xs e
      exact ⟨a, ws, by rw [wipe_get n] at h1; exact h1, h2⟩
  inj := fun i j m n xs ys a ei ej si sj => by
    have no : ∀ (i : Nat) (m : Option Addr) (xs : List PyData), (restD δ0 δ vs)[i]? = some (.o m xs) → i ∉ vs := fun i m xs e z => by
      have q := restD_in z e
      cases g : gs δ0 i with
      | un => rw [g] at q; cases q
      | d y => rw [g] at q; cases q
      | o m ys => rw [g] at q; cases q
    have ni := no i m xs ei
    have nj := no j n ys ej
    rw [restD_get ni, ← wipeD_get ni] at ei
    rw [restD_get nj, ← wipeD_get nj] at ej
    exact R.inj i j m n xs ys a ei ej (by rw [wipe_get ni]; exact si) (by rw [wipe_get nj]; exact sj)
  trk := R.trk
  dis := R.dis
theorem memPO (a : Addr) : a ∈ (D :: O) ++ P ↔ a ∈ O ++ (D :: P) := by
  simp only [List.cons_append, List.mem_cons, List.mem_append]
  constructor
  · rintro (h | h | h)
    · exact .inr (.inl h)
    · exact .inl h
    · exact .inr (.inr h)
  · rintro (h | h | h)
    · exact .inr (.inl h)
    · exact .inl h
    · exact .inr (.inr h)
theorem frzPO : frz ((D :: O) ++ P) H = frz (O ++ (D :: P)) H := frz_congr memPO
/-- a new object is laid, known to nobody, and stays -/
theorem Rel.newp {o : HO} (R : Rel δ σ O P H) (n : H D = none) : Rel δ σ O (D :: P) (upd H D o) := by
  have R' := R.newo (o := o) n
  have nO : D ∉ O := fun z => R.trk D (List.mem_append_left _ z) n
  refine ⟨R'.len, fun i x e => ?_, fun i m xs e => ?_, R'.inj, fun a m => R'.trk a ((memPO a).mpr m), fun a m z => ?_⟩
  · obtain ⟨v, a, b⟩ := R'.dat i x e
    exact ⟨v, a, by rw [← frzPO]; exact b⟩
  · obtain ⟨a, ws, h1, h2, h3, h4, h5⟩ := R'.own i m xs e
    obtain ⟨a', ws', g1, _, g3, _⟩ := R.own i m xs e
    rw [g1] at h1; cases h1
    exact ⟨_, ws, g1, h2, g3, h4, by rw [← frzPO]; exact h5⟩
  · rcases List.mem_cons.mp z with z | z
    · exact nO (by rw [← z]; exact m)
    · exact R.dis a m z
theorem Rel.ptoo (R : Rel δ σ O (D :: P) H) (nP : D ∉ P) : Rel δ σ (D :: O) P H := by
  refine ⟨R.len, fun i x e => ?_, fun i m xs e => ?_, R.inj, fun a m => R.trk a ((memPO a).mp m), fun a m z => ?_⟩
  · obtain ⟨v, a, b⟩ := R.dat i x e
    exact ⟨v, a, by rw [frzPO]; exact b⟩
  · obtain ⟨a, ws, h1, h2, h3, h4, h5⟩ := R.own i m xs e
    exact ⟨a, ws, h1, h2, List.mem_cons_of_mem _ h3, h4, by rw [frzPO]; exact h5⟩
  · rcases List.mem_cons.mp m with m | m
    · exact nP (by rw [← m]; exact z)
    · exact R.dis a m (List.mem_cons_of_mem _ z)
theorem frz_dropP : Le (frz (O ++ (D :: P)) H) (frz (O ++ P) H) := fun a o h => by
  obtain ⟨n, h⟩ := frz_some.mp h
  refine frz_some.mpr ⟨fun m => n ?_, h⟩
  rcases List.mem_append.mp m with m | m
  · exact List.mem_append_left _ m
  · exact List.mem_append_right _ (List.mem_cons_of_mem _ m)
theorem Rel.dropp (R : Rel δ σ O (D :: P) H) : Rel δ σ O P H where
  len := R.len
  dat := fun i x e => let ⟨v, a, b⟩ := R.dat i x e; ⟨v, a, dp_le frz_dropP _ _ b⟩
  own := fun i m xs e => let ⟨a, ws, h1, h2, h3, h4, h5⟩ := R.own i m xs e; ⟨a, ws, h1, h2, h3, h4, dpa_le frz_dropP _ _ h5⟩
  inj := R.inj
  trk := fun a m => R.trk a (by
    rcases List.mem_append.mp m with m | m
    · exact List.mem_append_left _ m
    · exact List.mem_append_right _ (List.mem_cons_of_mem _ m))
  dis := fun a m z => R.dis a m (List.mem_cons_of_mem _ z)
theorem frz_updP {o : HO} : frz (O ++ (D :: P)) (upd H D o) = frz (O ++ (D :: P)) H := by
  funext a
  unfold frz
  by_cases m : a ∈ O ++ (D :: P)
  · rw [if_pos m, if_pos m]
  · rw [if_neg m, if_neg m, upd_ne (fun z => m (by rw [z]; simp))]
theorem Rel.updp {o : HO} (R : Rel δ σ O (D :: P) H) : Rel δ σ O (D :: P) (upd H D o) where
  len := R.len
  dat := fun i x e => let ⟨v, a, b⟩ := R.dat i x e; ⟨v, a, by rw [frz_updP]; exact b⟩
  own := fun i m xs e => by
    obtain ⟨a, ws, h1, h2, h3, h4, h5⟩ := R.own i m xs e
    exact ⟨a, ws, h1, h2, h3, by rw [upd_ne (fun z => R.dis a h3 (by rw [z]; simp))]; exact h4, by rw [frz_updP]; exact h5⟩
  inj := R.inj
  trk := fun a m h => by
    by_cases z : a = D
    · subst z; rw [upd_same] at h; cases h
    · rw [upd_ne z] at h; exact R.trk a m h
  dis := R.dis
end
def noR : RX := fun _ _ _ => False
def compD (vs : List Nat) (g : TGd) (tt : TTd) (te : TD) : List PyData → List PyData → DSt → (List PyData → DSt → Prop) → Prop
  | [], acc, δ, Q => Q acc δ
  | x :: xs, acc, δ, Q => g x (wipeD δ vs) fun δ1 => tt δ1 noR fun b δ2 => if b = true then te δ2 noR fun r δ3 => acc.length < 16777216 ∧ compD vs g tt te xs (acc ++ [r.val]) δ3 Q else compD vs g tt te xs acc δ2 Q
def dComp (vs : List Nat) (ti : TDs) (g : TGd) (tt : TTd) (te : TD) : TD := fun δ R Q => ti δ R fun xs δ1 => compD vs g tt te xs [] δ1 fun acc δ2 => Q (.f acc) (restD δ1 δ2 vs)
abbrev E0s : XS := fun _ _ _ _ => False
structure DTs (X : Cx) (ifs : List Expr) (t : TTd) : Prop where
  ex : ∃ tt, PTs X ifs tt ∧ ∀ (δ : DSt) (σ : L2.St) (O P : List Addr) (H : Hp) (Q' : Bool → DSt → Prop) (Q : Bool → Hp → Prop), Rel δ σ O P H → t δ noR Q' →
    (∀ b δ' O' H', Rel δ' σ O' P H' → Stp O H O' H' → Q' b δ' → Q b H') → tt σ H Q
def tYesD : TTd := fun δ _ Q => Q true δ
theorem dts_nil {X : Cx} : DTs X [] tYesD := ⟨_, pts_nil, fun δ σ O P H Q' Q I h k => k true δ O H I .refl h⟩
theorem dts_one {X : Cx} {c : Expr} {t : TTd} (h : DT X E0s c t) : DTs X [c] t := by
  obtain ⟨tt, p, q⟩ := h.ex
  exact ⟨tt, pts_one p, fun δ σ O P H Q' Q I h k => q δ σ O P H noR Q' Q I .no h k⟩
section
variable {X : Cx} {E : XS} {elt tg iter : Expr} {ifs : List Expr} {scope : Scope} {own : List (Str × Nat)} {pos : Pos} {ti : TDs} {g : TGd} {tt : TTd} {te : TD} {vs : List Nat}
/-- the weakest readings over all starts of a block -/
def wkE (X : Cx) (scope : Scope) (elt : Expr) : TE := fun σ H Q => ∀ (s0 : Shared) (H0 : Hp) (C : Addr) (cl : List (Str × Addr)) (fp : List Addr) (pins : List (Addr × Obj)) (s : Shared), Inv (X.blk s0 H0 scope (compEnvC scope cl C X.env) fp) pins σ H s →
  wpAny (model X.prog X.w) X.A (eval elt (compEnvC scope cl C X.env)) (EP (X.blk s0 H0 scope (compEnvC scope cl C X.env) fp) pins σ Q) (fun _ _ => False) s
def wkT (X : Cx) (scope : Scope) (ifs : List Expr) : TT := fun σ H Q => ∀ (s0 : Shared) (H0 : Hp) (C : Addr) (cl : List (Str × Addr)) (fp : List Addr) (pins : List (Addr × Obj)) (s : Shared), Inv (X.blk s0 H0 scope (compEnvC scope cl C X.env) fp) pins σ H s →
  wpAny (model X.prog X.w) X.A (forIn ifs true fun c r => if r = true then do let ok ← isTrue c (compEnvC scope cl C X.env) (eval c (compEnvC scope cl C X.env)); pure (ForInStep.yield ok) else pure (ForInStep.yield r)) (TP (X.blk s0 H0 scope (compEnvC scope cl C X.env) fp) pins σ Q) (fun _ _ => False) s
def wkG (X : Cx) (scope : Scope) (tg : Expr) : TG := fun v σ H Q => ∀ (s0 : Shared) (H0 : Hp) (C : Addr) (cl : List (Str × Addr)) (fp : List Addr) (pins : List (Addr × Obj)) (s : Shared) (u : Value), Inv (X.blk s0 H0 scope (compEnvC scope cl C X.env) fp) pins σ H s → RelV v u →
  wpAny (model X.prog X.w) X.A (assign tg (compEnvC scope cl C X.env) u) (fun _ s' => ∃ σ' H', Inv (X.blk s0 H0 scope (compEnvC scope cl C X.env) fp) pins σ' H' s' ∧ Q σ' H') (fun _ _ => False) s
theorem de_lc_core (hi : DI X E tg iter ti) (hg : ∀ (s : Shared) (H : Hp) (C : Addr) (cl : List (Str × Addr)) (fp : List Addr), DG (X.blk s H scope (compEnvC scope cl C X.env) fp) vs tg g)
    (ht : ∀ (s : Shared) (H : Hp) (C : Addr) (cl : List (Str × Addr)) (fp : List Addr), DTs (X.blk s H scope (compEnvC scope cl C X.env) fp) ifs tt)
    (he : ∀ (s : Shared) (H : Hp) (C : Addr) (cl : List (Str × Addr)) (fp : List Addr), DE (X.blk s H scope (compEnvC scope cl C X.env) fp) E0s elt te) :
    ∃ wi, PI X tg iter wi ∧ ∀ (δ : DSt) (σ : L2.St) (O P : List Addr) (H : Hp) (R : RX) (Q' : Rs → DSt → Prop) (Q : VK), Rel δ σ O P H → ExW E O P H R → dComp vs ti g tt te δ R Q' →
      (∀ r v δ' O' H', Got r v δ' σ O' P H' → Stp O H O' H' → Q' r δ' → Q v H') → tLc wi (wkG X scope tg) (wkT X scope ifs) (wkE X scope elt) vs σ H Q := by
  obtain ⟨wi, pi, qi⟩ := hi.ex
  refine ⟨wi, pi, fun δ σ O P H R Q' Q I w h k => ?_⟩
  refine qi δ σ O P H R _ _ I w h fun J xs δ1 O1 H1 R1 s1 it h1 => ?_
  intro D nD
  have nOP := R1.fresh nD
  simp only [List.mem_append, not_or] at nOP
  refine ⟨fun i m Hc => ∃ (δc : DSt) (acc : List PyData) (accV : List V) (Oc : List Addr), m = xs.length - i ∧ i ≤ xs.length ∧ Rel (wipeD δc vs) (wipe σ vs) Oc (D :: P) Hc ∧ Stp O1 H1 Oc Hc ∧ Hc D = some (.lst accV) ∧ DqAll (frz (Oc ++ (D :: P)) Hc) accV acc ∧
    compD vs g tt te (xs.drop i) acc δc fun acc δ2 => Q' (.f acc) (restD δ1 δ2 vs), ⟨xs.length, δ1, [], [], O1, rfl, Nat.zero_le _, (R1.wiped vs).newp nD, .newd nD, upd_same, .nil, h1⟩, ?_⟩
  rintro i m Hc ⟨δc, acc, accV, Oc, rfl, hi, Rc, sc, hD, da, hc⟩
  have trkc : ∀ a, a ∈ Oc ++ P → Hc a ≠ none := fun a m => Rc.trk a (by
    rcases List.mem_append.mp m with m | m
    · exact List.mem_append_left _ m
    · exact List.mem_append_right _ (List.mem_cons_of_mem _ m))
  have nDO : D ∉ Oc := fun z => Rc.dis D z (by simp)
  have sc' : Stp O1 H1 (D :: Oc) Hc := ⟨fun a o h n => ⟨(sc.keep a o h n).1, fun z => by
    rcases List.mem_cons.mp z with z | z
    · rw [z, nD] at h; cases h
    · exact (sc.keep a o h n).2 z⟩, sc.there⟩
  have trkc : ∀ a, a ∈ (D :: Oc) ++ P → Hc a ≠ none := fun a m => Rc.trk a (memPO a |>.mp m)
  by_cases hlt : i < xs.length
  · have hx : xs[i]? = some xs[i] := List.getElem?_eq_getElem hlt
    rw [List.drop_eq_getElem_cons hlt] at hc
    have hgo := (it (D :: Oc) Hc sc'.le trkc i).1 _ hx
    refine .inr ⟨hgo.1, (fun H' => ∃ (δc : DSt) (acc : List PyData) (accV : List V) (Oc : List Addr), Rel (wipeD δc vs) (wipe σ vs) Oc (D :: P) H' ∧ Stp O1 H1 Oc H' ∧ H' D = some (.lst accV) ∧ DqAll (frz (Oc ++ (D :: P)) H') accV acc ∧
        compD vs g tt te (xs.drop (i + 1)) acc δc fun acc δ2 => Q' (.f acc) (restD δ1 δ2 vs)), fun H' n => ?_, fun x H' y => ?_⟩
    · obtain ⟨δc, acc, accV, Oc, q1, q2, q3, q4, q5⟩ := n
      exact ⟨xs.length - (i + 1), by omega, δc, acc, accV, Oc, rfl, hlt, q1, q2, q3, q4, q5⟩
    · obtain ⟨dx, hH⟩ := hgo.2 x H' y
      rw [frzPO] at dx
      -- the item's tuple may be new
      have Rn : Rel (wipeD δc vs) (wipe σ vs) Oc (D :: P) H' ∧ Stp Oc Hc Oc H' := by
        rcases hH with rfl | ⟨T, o, nT, rfl⟩
        · exact ⟨Rc, .refl⟩
        · exact ⟨Rc.newd nT, .newd nT⟩
      obtain ⟨Rn, sn⟩ := Rn
      have sn1 := sc.trans sn
      have hDn := (sn.keep D _ hD nDO).1
      have dan := sn.dpa da
      intro s0 H0 C cl fp pins s u I2 r2
      obtain ⟨tg', pg, qg⟩ := (hg s0 H0 C cl fp).ex
      refine pg.run pins s (wipe σ vs) H' x u _ I2 r2 (qg _ x _ _ Oc (D :: P) H' _ _ Rn dx hc fun δ2 σ2 O2 H2 R2 s2 w2 h2 => ⟨(w2 vs fun _ z => z).trans wipe_wipe, ?_⟩)
      have e2 : wipe σ2 vs = wipe σ vs := (w2 vs fun _ z => z).trans wipe_wipe
      have hD2 := s2.keep D _ hDn nDO
      have da2 := s2.dpa dan
      intro s0 H0 C cl fp pins s I3
      obtain ⟨tt', pt, qt⟩ := (ht s0 H0 C cl fp).ex
      refine pt.run pins s σ2 H2 _ I3 (qt δ2 σ2 O2 (D :: P) H2 _ _ R2 h2 fun b δ3 O3 H3 R3 s3 h3 => ?_)
      have hD3 := s3.keep D _ hD2.1 hD2.2
      have da3 := s3.dpa da2
      cases b with
      | false =>
        refine iteF ⟨δ3, acc, accV, O3, by rw [← e2]; exact R3.wiped vs, (sn1.trans s2).trans s3, hD3.1, da3, h3⟩
      | true =>
        refine iteT ?_
        intro s0 H0 C cl fp pins s I4
        obtain ⟨te', pe, qe⟩ := (he s0 H0 C cl fp).ex
        refine pe.run pins s σ2 H3 _ I4 (qe δ3 σ2 O3 (D :: P) H3 noR _ _ R3 .no h3 fun r v δ4 O4 H4 g4 s4 h4 => ?_)
        obtain ⟨O5, R5, d5, s5⟩ := g4.share s4
        have hD5 := s5.keep D _ hD3.1 hD3.2
        have da5 := s5.dpa da3
        refine ⟨accV, hD5.1, by rw [dpa_len da5]; exact h4.1, δ4, acc ++ [r.val], accV ++ [v], O5, by rw [← e2]; exact (R5.wiped vs).updp, ⟨fun a o ha n => ?_, fun a ha => ?_⟩, upd_same, by rw [frz_updP]; exact dpa_append da5 (dpa_one d5), h4.2⟩
        · have q := (((sn1.trans s2).trans s3).trans s5).keep a o ha n
          exact ⟨by rw [upd_ne (fun z => by rw [z, nD] at ha; cases ha)]; exact q.1, q.2⟩
        · by_cases z : a = D
          · rw [z, nD] at ha; exact (ha rfl).elim
          · rw [upd_ne z]; exact (((sn1.trans s2).trans s3).trans s5).there a ha
  · have e : i = xs.length := by omega
    subst e
    rw [List.drop_length] at hc
    have hst := (it (D :: Oc) Hc sc'.le trkc xs.length).2 rfl
    refine .inl ⟨hst, ?_⟩
    have Rr : Rel (restD δ1 δc vs) σ Oc (D :: P) Hc := Rc.rested fun j y _ gy => by
      obtain ⟨v, q1, q2⟩ := R1.dat j y (gs_d gy)
      refine ⟨v, q1, ?_⟩
      have q3 := sc'.dp q2
      rw [frzPO] at q3
      exact q3
    have nP : D ∉ P := nOP.2
    refine k (.f acc) _ _ (D :: Oc) Hc ⟨D, accV, Oc, rfl, rfl, nDO, nP, Rr.dropp, Rr.ptoo nP, hD, by rw [frzPO]; exact da⟩ (s1.trans sc') hc
theorem de_lc (hc : X.calm = true) (hN : X.N.Nodup) (ok : BlkOk X.N X.env.scope scope own) (hi : DI X E tg iter ti) (hg : ∀ (s : Shared) (H : Hp) (C : Addr) (cl : List (Str × Addr)) (fp : List Addr), DG (X.blk s H scope (compEnvC scope cl C X.env) fp) (own.map (·.2)) tg g)
    (ht : ∀ (s : Shared) (H : Hp) (C : Addr) (cl : List (Str × Addr)) (fp : List Addr), DTs (X.blk s H scope (compEnvC scope cl C X.env) fp) ifs tt)
    (he : ∀ (s : Shared) (H : Hp) (C : Addr) (cl : List (Str × Addr)) (fp : List Addr), DE (X.blk s H scope (compEnvC scope cl C X.env) fp) E0s elt te) (hs : ∀ x, foldedSetIterable iter X.env x = pure x := by intro _; rfl) :
    DE X E (.ListComp elt [⟨tg, iter, ifs, 0⟩] scope pos) (dComp (own.map (·.2)) ti g tt te) := by
  obtain ⟨wi, pi, q⟩ := de_lc_core hi hg ht he
  exact ⟨_, pe_lc hc hN pi ok (fun s H C cl fp => ⟨fun pins s σ H v u Q I r h => h _ _ _ _ _ pins s u I r⟩) (fun s H C cl fp => ⟨fun pins s σ H Q I h => h _ _ _ _ _ pins s I⟩) (fun s H C cl fp => ⟨fun pins s σ H Q I h => h _ _ _ _ _ pins s I⟩) hs, q⟩
end
end DL

namespace DL
open PySem L2 RZ
/-! ## 12. Statements -/
structure DEnds where
  nx : DSt → Prop
  rt : Rs → DSt → Prop
  bk : DSt → Prop := fun _ => False
  ct : DSt → Prop := fun _ => False
  ex : RX
structure Lnk (DD : DEnds) (D : Ends) (E : XS) (O P : List Addr) (H : Hp) : Prop where
  nx : ∀ δ' σ' O' H', Rel δ' σ' O' P H' → Stp O H O' H' → DD.nx δ' → D.nx σ' H'
  rt : ∀ r v δ' σ' O' H', Got r v δ' σ' O' P H' → Stp O H O' H' → DD.rt r δ' → D.rt v H'
  bk : ∀ δ' σ' O' H', Rel δ' σ' O' P H' → Stp O H O' H' → DD.bk δ' → D.bk σ' H'
  ct : ∀ δ' σ' O' H', Rel δ' σ' O' P H' → Stp O H O' H' → DD.ct δ' → D.ct σ' H'
  ex : ExW E O P H DD.ex
theorem Lnk.step {DD : DEnds} {D : Ends} {E : XS} {O O1 P : List Addr} {H H1 : Hp} (h : Lnk DD D E O P H) (s : Stp O H O1 H1) : Lnk DD D E O1 P H1 :=
  ⟨fun δ' σ' O' H' r s' q => h.nx δ' σ' O' H' r (s.trans s') q, fun r v δ' σ' O' H' g s' q => h.rt r v δ' σ' O' H' g (s.trans s') q, fun δ' σ' O' H' r s' q => h.bk δ' σ' O' H' r (s.trans s') q, fun δ' σ' O' H' r s' q => h.ct δ' σ' O' H' r (s.trans s') q, h.ex.step s⟩
abbrev TSd := DEnds → DSt → Prop
structure DS (X : Cx) (E : XS) (st : Stmt) (t : TSd) : Prop where
  ex : ∃ ts, PS X st ts ∧ ∀ (δ : DSt) (σ : L2.St) (O P : List Addr) (H : Hp) (DD : DEnds) (D : Ends), Rel δ σ O P H → Lnk DD D E O P H → t DD δ → ts D σ H
structure DSs (X : Cx) (E : XS) (st : List Stmt) (t : TSd) : Prop where
  ex : ∃ ts, PSs X st ts ∧ ∀ (δ : DSt) (σ : L2.St) (O P : List Addr) (H : Hp) (DD : DEnds) (D : Ends), Rel δ σ O P H → Lnk DD D E O P H → t DD δ → ts D σ H
section
variable {X : Cx} {E : XS} {st : Stmt} {rest : List Stmt} {t u : TSd} {e c : Expr} {te : TD} {pos : Pos} {tA : TTd}
def sNext : TSd := fun D δ => D.nx δ
def sSeq (t u : TSd) : TSd := fun D δ => t { D with nx := fun δ1 => u D δ1 } δ
theorem dss_nil : DSs X E [] sNext := ⟨_, pss_nil, fun δ σ O P H DD D I L h => L.nx δ σ O H I .refl h⟩
theorem dss_cons (h1 : DS X E st t) (h2 : DSs X E rest u) : DSs X E (st :: rest) (sSeq t u) := by
  obtain ⟨a, p, q⟩ := h1.ex
  obtain ⟨b, p', q'⟩ := h2.ex
  refine ⟨_, pss_cons p p', fun δ σ O P H DD D I L h => ?_⟩
  exact q δ σ O P H { DD with nx := fun δ1 => u DD δ1 } _ I ⟨fun δ' σ' O' H' r s z => q' δ' σ' O' P H' DD D r (L.step s) z, L.rt, L.bk, L.ct, L.ex⟩ h
theorem dss_one (h1 : DS X E st t) : DSs X E [st] t := by
  obtain ⟨a, p, q⟩ := h1.ex
  exact ⟨_, pss_one p, q⟩
theorem ds_pass : DS X E (.Pass pos) sNext := ⟨_, ps_pass, fun δ σ O P H DD D I L h => L.nx δ σ O H I .refl h⟩
def sBreak : TSd := fun D δ => D.bk δ
def sCont : TSd := fun D δ => D.ct δ
theorem ds_break : DS X E (.Break pos) sBreak := ⟨_, ps_break, fun δ σ O P H DD D I L h => L.bk δ σ O H I .refl h⟩
theorem ds_continue : DS X E (.Continue pos) sCont := ⟨_, ps_continue, fun δ σ O P H DD D I L h => L.ct δ σ O H I .refl h⟩
theorem ds_doc {x : Str} {j} {pos' : Pos} : DS X E (.Expr (.Constant (.str x) j pos) pos') sNext := ⟨_, ps_doc, fun δ σ O P H DD D I L h => L.nx δ σ O H I .refl h⟩
def sDrop (te : TD) : TSd := fun D δ => te δ D.ex fun _ δ1 => D.nx δ1
theorem ds_expr (he : DE X E e te) (hs : swapsWith e none pos.line X.env = pure false := by rfl) : DS X E (.Expr e pos) (sDrop te) := by
  obtain ⟨a, p, q⟩ := he.ex
  exact ⟨_, ps_expr p hs, fun δ σ O P H DD D I L h => q δ σ O P H _ _ _ I L.ex h fun r v δ' O' H' g s z => L.nx δ' σ O' H' g.rel s z⟩
def sRet (te : TD) : TSd := fun D δ => te δ D.ex D.rt
theorem ds_ret (he : DE X E e te) : DS X E (.Return (some e) pos) (sRet te) := by
  obtain ⟨a, p, q⟩ := he.ex
  exact ⟨_, ps_ret p, fun δ σ O P H DD D I L h => q δ σ O P H _ _ _ I L.ex h fun r v δ' O' H' g s z => L.rt r v δ' σ O' H' g s z⟩
def sRetN : TSd := fun D δ => D.rt (.d .none) δ
theorem ds_retN : DS X E (.Return none pos) sRetN := ⟨_, ps_retN, fun δ σ O P H DD D I L h => L.rt (.d .none) .non δ σ O H (.dat I .non) .refl h⟩
def sIf (c : TTd) (t u : TSd) : TSd := fun D δ => c δ D.ex fun b δ1 => if b = true then t D δ1 else u D δ1
theorem ds_if {a b : List Stmt} (hc : DT X E c tA) (ha : DSs X E a t) (hb : DSs X E b u) : DS X E (.If c a b pos) (sIf tA t u) := by
  obtain ⟨w, p, q⟩ := hc.ex
  obtain ⟨w1, p1, q1⟩ := ha.ex
  obtain ⟨w2, p2, q2⟩ := hb.ex
  refine ⟨_, ps_if p p1 p2, fun δ σ O P H DD D I L h => ?_⟩
  refine q δ σ O P H _ _ _ I L.ex h fun b δ1 O1 H1 R1 s1 h1 => ?_
  cases b with
  | true => exact iteT (q1 δ1 σ O1 P H1 DD D R1 (L.step s1) h1)
  | false => exact iteF (q2 δ1 σ O1 P H1 DD D R1 (L.step s1) h1)
/-! ### stores -/
def sSet (i : Nat) (te : TD) : TSd := fun D δ => te δ D.ex fun r δ1 => i < δ1.length ∧ D.nx (ss δ1 i r.sl)
theorem ds_set {i : Nat} {x : Str} {pos' : Pos} (hN : X.N.Nodup) (hi : X.N[i]? = some x) (hx : Loc X.env.scope x) (he : DE X E e te) (hs : swapsWith e (some (.Name x pos')) pos.line X.env = pure false := by rfl)
    (hf : X.fn x = true ∨ X.env.scope.names.lookup x = some .local := by first | exact .inl rfl | exact .inr rfl | assumption) : DS X E (.Assign [.Name x pos'] e pos) (sSet i te) := by
  obtain ⟨a, p, q⟩ := he.ex
  refine ⟨_, ps_set hN hi hx p hs hf, fun δ σ O P H DD D I L h => ?_⟩
  refine q δ σ O P H _ _ _ I L.ex h fun r v δ1 O1 H1 g1 s1 h1 => ?_
  rw [ss_eq] at h1
  exact L.nx _ _ O1 H1 (Rel.set g1 h1.1) s1 h1.2
theorem ds_setLc {i : Nat} {y : Str} {py : Pos} {elt tg iter : Expr} {ifs : List Expr} {scope : Scope} {own : List (Str × Nat)} {spos : Pos} {ti : TDs} {g : TGd} {tt : TTd} (hc : X.calm = true) (hN : X.N.Nodup) (hy : X.N[i]? = some y) (hyl : X.env.scope.names.lookup y = some .local)
    (hsw : swapsWith (.ListComp elt [⟨tg, iter, ifs, 0⟩] scope pos) (some (.Name y py)) spos.line X.env = pure true) (ok : BlkOk X.N X.env.scope scope own) (hi : DI X E tg iter ti)
    (hg : ∀ (s : Shared) (H : Hp) (C : Addr) (cl : List (Str × Addr)) (fp : List Addr), DG (X.blk s H scope (compEnvC scope cl C X.env) fp) (own.map (·.2)) tg g) (ht : ∀ (s : Shared) (H : Hp) (C : Addr) (cl : List (Str × Addr)) (fp : List Addr), DTs (X.blk s H scope (compEnvC scope cl C X.env) fp) ifs tt)
    (he : ∀ (s : Shared) (H : Hp) (C : Addr) (cl : List (Str × Addr)) (fp : List Addr), DE (X.blk s H scope (compEnvC scope cl C X.env) fp) E0s elt te) (hs : ∀ x, foldedSetIterable iter X.env x = pure x := by intro _; rfl) :
    DS X E (.Assign [.Name y py] (.ListComp elt [⟨tg, iter, ifs, 0⟩] scope pos) spos) (sSet i (dComp (own.map (·.2)) ti g tt te)) := by
  obtain ⟨wi, pi, q⟩ := de_lc_core hi hg ht he
  refine ⟨_, ps_setLc (g := wkG X scope tg) (tt := wkT X scope ifs) (te := wkE X scope elt) hc hN hy hyl hsw pi ok (fun s H C cl fp => ⟨fun pins s σ H v u Q I r h => h _ _ _ _ _ pins s u I r⟩) (fun s H C cl fp => ⟨fun pins s σ H Q I h => h _ _ _ _ _ pins s I⟩) (fun s H C cl fp => ⟨fun pins s σ H Q I h => h _ _ _ _ _ pins s I⟩) hs, fun δ σ O P H DD D I L h => ?_⟩
  refine q δ σ O P H _ _ _ I L.ex h fun r v δ1 O1 H1 g1 s1 h1 => ?_
  rw [ss_eq] at h1
  exact L.nx _ _ O1 H1 (Rel.set g1 h1.1) s1 h1.2
/-- a target of any form -/
def sAsg (te : TD) (g : TGd) : TSd := fun D δ => te δ D.ex fun r δ1 => g r.val δ1 D.nx
theorem ds_asg {tg : Expr} {vs : List Nat} {g : TGd} (he : DE X E e te) (hg : DG X vs tg g) (hs : swapsWithSole [tg] e pos.line X.env = pure false := by rfl) (hw : swappedStores [tg] e X.env = pure none := by rfl) (h1 : (assignEach [tg] X.env).map (·.2) = [assign tg X.env] := by rfl) : DS X E (.Assign [tg] e pos) (sAsg te g) := by
  obtain ⟨a, p, q⟩ := he.ex
  obtain ⟨b, p', q'⟩ := hg.ex
  refine ⟨_, ps_asg p p' hs hw h1, fun δ σ O P H DD D I L h => ?_⟩
  refine q δ σ O P H _ _ _ I L.ex h fun r v δ1 O1 H1 g1 s1 h1 => ?_
  obtain ⟨O2, R2, d2, s2⟩ := g1.share s1
  exact q' _ v δ1 σ O2 P H1 _ _ R2 d2 h1 fun δ3 σ3 O3 H3 R3 s3 _ h3 => L.nx δ3 σ3 O3 H3 R3 (s2.trans s3) h3
/-- x += e, x a name -/
def sAug (i : Nat) (f : K2) (tb : TO') : TSd := fun D δ => (gs δ i).val ≠ none ∧ tb δ D.ex fun b δ1 => match (gs δ1 i).val, b.res δ1 with
  | some x, some y => f x y fun z => i < δ1.length ∧ D.nx (ss δ1 i z.sl)
  | _, _ => False
theorem ds_aug {i : Nat} {x : Str} {op : Operator} {r : R2} {f : K2} {pos' : Pos} {ob : TO'} (hN : X.N.Nodup) (hi : X.N[i]? = some x) (hx : Loc X.env.scope x) (he : DA X E e ob) (ho : PIp X op r) (hd : OpD r f)
    (hf : X.fn x = true ∨ X.env.scope.names.lookup x = some .local := by first | exact .inl rfl | exact .inr rfl | assumption) : DS X E (.AugAssign (.Name x pos') op e pos) (sAug i f ob) := by
  obtain ⟨a, p, q⟩ := he.ex
  refine ⟨_, ps_aug hN hi hx p ho hf, fun δ σ O P H DD D I L h => ?_⟩
  obtain ⟨n, h⟩ := h
  have look : ∃ u, σ[i]? = some (some u) := by
    cases g : gs δ i with
    | un => rw [g] at n; exact (n rfl).elim
    | d z => obtain ⟨u, h1, _⟩ := I.dat i _ (gs_d g); exact ⟨u, h1⟩
    | o m zs => obtain ⟨a, _, h1, _⟩ := I.own i _ _ (gs_o g); exact ⟨_, h1⟩
  obtain ⟨u, hu⟩ := look
  refine ⟨u, hu, ?_⟩
  refine q δ σ O P H _ _ _ I L.ex h fun o v δ1 O1 H1 R1 a1 s1 h1 => ?_
  have au : OpdAt (.v i) u σ (O1 ++ P) H1 := hu
  split at h1
  · rename_i x' y e1 e2
    refine hd x' y u v δ1 σ O1 P H1 _ _ R1 (au.lq R1 e1) (a1.lq R1 e2) h1 fun z w' O2 H2 g2 s2 q2 => ?_
    rw [ss_eq] at q2
    exact L.nx _ _ O2 H2 (Rel.set g2 q2.1) (s1.trans s2) q2.2
  · exact h1.elim
theorem pip_add : PIp X .Add (rI0 fun i j => .int (i + j)) := ip_add
theorem pip_sub : PIp X .Sub (rI0 fun i j => .int (i - j)) := ip_sub
/-- x[e] op= e', x a name whose slot holds its list alone -/
def rGetL : V → V → Hp → VK → Prop := fun o i H Q => ∃ p xs k v, o = .ref p ∧ i = .int k ∧ Rd H p (.lst xs) ∧ 0 ≤ k ∧ xs[k.toNat]? = some v ∧ Q v H
theorem pget_list : PGet X rGetL := by
  intro pins s σ H o i ov iv Q I ro ri h
  obtain ⟨p, xs, k, v, rfl, rfl, hp, h0, hv, q⟩ := h
  cases ro
  obtain ⟨t, rfl⟩ := ri
  obtain ⟨its, r, pl, hz⟩ := I.list (.inl hp : SqL X.K H p xs)
  obtain ⟨w, ew, rw'⟩ := r.get hv
  have hk : k.toNat < xs.length := (List.getElem?_eq_some_iff.mp hv).1
  have hsz : (sizeLine : Nat) = 16777216 := by decide
  exact wpAny_getItem_list pl.isList h0 (by omega) (by simpa using ew) ⟨v, H, I, rw', q⟩
def sAugS (i : Nat) (f : K2) (ti tb : TO') : TSd := fun D δ => (gs δ i).val ≠ none ∧ ti δ D.ex fun o δ1 => match o.res δ1, gs δ1 i with
  | some (.int k), .o m xs => 0 ≤ k ∧ match xs[k.toNat]? with
    | some x => tb δ1 D.ex fun b δ2 => match b.res δ2 with
      | some y => f x y fun z => match gs δ2 i with
        | .o m' xs' => k.toNat < xs'.length ∧ (∀ ws, z ≠ .f ws) ∧ D.nx (ss δ2 i (.o m' (xs'.set k.toNat z.val)))
        | _ => False
      | none => False
    | none => False
  | _, _ => False
theorem ds_augS (i : Nat) {ix : Expr} {x : Str} {p : Pos} {op : Operator} {r : R2} {f : K2} {tpos : Pos} {oi ob : TO'} (hoi : DA X E ix oi) (he : DA X E e ob) (ho : PIp X op r) (hd : OpD r f) (hN : X.N[i]? = some x := by rfl) (hv : Vis X.env.scope x := by first | exact Or.inl rfl | exact Or.inr (Or.inl rfl) | exact Or.inr (Or.inr rfl))
    (hdb : (x == ("__debug__" : Str)) = false := by decide) (hcd : (x == ("__classdict__" : Str)) = false := by decide)
    (ha : ∀ ov iv new, augStore ix ov iv new = (do holding [new, ov, iv] (setItem ov iv new); release [new, ov, iv] []; pure Flow.next) := by intros; rfl) : DS X E (.AugAssign (.Subscript (.Name x p) ix tpos) op e pos) (sAugS i f oi ob) := by
  obtain ⟨a, pa, qa⟩ := hoi.ex
  obtain ⟨b, pb, qb⟩ := he.ex
  refine ⟨_, ps_augS (pe_var hN hv hdb hcd) pa pget_list pb ho set_list ha, fun δ σ O P H DD D I L h => ?_⟩
  obtain ⟨n, h⟩ := h
  have look : ∃ u, σ[i]? = some (some u) := by
    cases g : gs δ i with
    | un => rw [g] at n; exact (n rfl).elim
    | d z => obtain ⟨u, h1, _⟩ := I.dat i _ (gs_d g); exact ⟨u, h1⟩
    | o m zs => obtain ⟨a, _, h1, _⟩ := I.own i _ _ (gs_o g); exact ⟨_, h1⟩
  obtain ⟨u, hu⟩ := look
  refine ⟨u, hu, ?_⟩
  refine qa δ σ O P H _ _ _ I L.ex h fun o v δ1 O1 H1 R1 a1 s1 h1 => ?_
  split at h1
  · rename_i k m xs e1 e2
    cases (a1.lq R1 e1).int
    obtain ⟨h0, h1⟩ := h1
    obtain ⟨ad, ws, g1, _, g3, g4, g5⟩ := R1.own i _ _ (gs_o e2)
    rw [hu] at g1; cases g1
    split at h1
    · rename_i x' ex
      obtain ⟨vx, f1, f2⟩ := dpa_get g5 ex
      refine ⟨ad, ws, k, vx, rfl, rfl, .inl g4, h0, f1, ?_⟩
      refine qb δ1 σ O1 P H1 _ _ _ R1 (L.ex.step s1) h1 fun o2 v2 δ2 O2 H2 R2 a2 s2 h2 => ?_
      split at h2
      · rename_i y e3
        refine hd x' y vx v2 δ2 σ O2 P H2 _ _ R2 (.inl (s2.dp f2)) (a2.lq R2 e3) h2 fun z w' O3 H3 g3' s3 q3 => ?_
        split at q3
        · rename_i m' xs' e4
          obtain ⟨O4, R4, d4, s4⟩ := g3'.share s3
          obtain ⟨ad', ws', k1, _, k3, k4, k5⟩ := R4.own i _ _ (gs_o e4)
          rw [hu] at k1; cases k1
          obtain ⟨R5, s5⟩ := R4.chg (gs_o e4) hu (dpa_set k.toNat k5 d4)
          have hlen : k.toNat < ws'.length := by rw [dpa_len k5]; exact q3.1
          refine ⟨_, ws', k, k.toNat, rfl, rfl, k4, ?_, ?_⟩
          · unfold ixN
            rw [if_pos h0, if_pos (by omega)]
          · rw [ss_eq] at q3
            exact L.nx _ _ O4 _ R5 (((s1.trans s2).trans s4).trans s5) q3.2.2
        · exact q3.elim
      · exact h2.elim
    · exact h1.elim
  · exact h1.elim
/-- x.append(e), x a name -/
def sApp (i : Nat) (te : TD) : TSd := fun D δ => (∃ m xs, gs δ i = .o m xs) ∧ te δ D.ex fun r δ1 => match gs δ1 i with
  | .o m xs => xs.length < 16777216 ∧ D.nx (ss δ1 i (.o m (xs ++ [r.val])))
  | _ => False
theorem ds_append (i : Nat) {x : Str} {p apos cpos : Pos} (he : DE X E e te) (hN : X.N[i]? = some x := by rfl) (hv : Vis X.env.scope x := by first | exact Or.inl rfl | exact Or.inr (Or.inl rfl) | exact Or.inr (Or.inr rfl))
    (hdb : (x == ("__debug__" : Str)) = false := by decide) (hcd : (x == ("__classdict__" : Str)) = false := by decide)
    (hbase : attributeBase (.Name x p) "append" X.env (eval (.Name x p) X.env) = eval (.Name x p) X.env := by rfl)
    (hfew : ((backTo cpos (starEach [e] X.env)).all (fun x => !x.1) && (backToKw cpos (keywordEach [] X.env)).all (fun x => x.1.isSome)
      && decide ([e].length + ([] : List Keyword).length + (if ([] : List Keyword).isEmpty then 0 else 1) < 30)) = true := by rfl)
    (hline : (apos.endLine == cpos.line) = true := by rfl) (hs : starEach (e :: []) X.env = (false, eval e X.env) :: starEach [] X.env := by rfl) (hplain : (backTo cpos (starEach [] X.env)).any (·.1) = false := by rfl)
    (hsw : swapsWith (.Call (.Attribute (.Name x p) "append" apos) [e] [] cpos) none pos.line X.env = pure false := by rfl) :
    DS X E (.Expr (.Call (.Attribute (.Name x p) "append" apos) [e] [] cpos) pos) (sApp i te) := by
  obtain ⟨a, pa, qa⟩ := he.ex
  refine ⟨_, ps_expr (pe_bm PySem.F.plainAttrs_list PySem.F.slot_list_append PySem.F.type_list_append mt_append (pe_var hN hv hdb hcd) (pa_cons pa pa_nil hs) hbase hfew hline hs hplain) hsw, fun δ σ O P H DD D I L h => ?_⟩
  obtain ⟨⟨m0, xs0, g0⟩, h⟩ := h
  obtain ⟨a0, ws0, h1, _, h3, h4, _⟩ := I.own i _ _ (gs_o g0)
  refine ⟨.ref a0, h1, .inl ⟨rfl, ws0, SqL.of h4⟩, ?_⟩
  refine qa δ σ O P H _ _ _ I L.ex h fun r v δ1 O1 H1 g1 s1 h2 => ?_
  obtain ⟨O2, R2, d2, s2⟩ := g1.share s1
  split at h2
  · rename_i m xs e1
    obtain ⟨a1, ws, k1, k2, k3, k4, k5⟩ := R2.own i _ _ (gs_o e1)
    rw [h1] at k1; cases k1
    obtain ⟨R5, s5⟩ := R2.chg (gs_o e1) h1 (dpa_append k5 (dpa_one d2))
    refine ⟨a0, ws, v, rfl, rfl, k4, by rw [dpa_len k5]; exact h2.1, ?_⟩
    rw [ss_eq] at h2
    exact L.nx _ _ O2 _ R5 (s2.trans s5) h2.2
  · exact h2.elim
/-! ### for -/
def forD (g : TGd) (tb : TSd) (D : DEnds) : List PyData → DSt → Prop
  | [], δ => D.nx δ
  | x :: xs, δ => g x δ fun δ1 => tb { D with nx := forD g tb D xs, ct := forD g tb D xs, bk := D.nx } δ1
def sFor (ti : TDs) (g : TGd) (tb : TSd) : TSd := fun D δ => ti δ D.ex fun xs δ1 => forD g tb D xs δ1
theorem ds_for {tg iter : Expr} {body : List Stmt} {vs : List Nat} {ti : TDs} {g : TGd} {tb : TSd} (hp : PassesOwn (model X.prog X.w) X.A X.env X.xe) (hc : X.calm = true) (hi : DI X E tg iter ti) (hg : DG X vs tg g) (hb : DSs X E body tb)
    (hs : ∀ x, foldedSetIterable iter X.env x = pure x := by intro _; rfl) : DS X E (.For tg iter body [] pos) (sFor ti g tb) := by
  obtain ⟨wi, pi, qi⟩ := hi.ex
  obtain ⟨wg, pg, qg⟩ := hg.ex
  obtain ⟨wb, pb, qb⟩ := hb.ex
  refine ⟨_, ps_for hp hc pi pg pb hs, fun δ σ O P H DD D I L h => ?_⟩
  refine qi δ σ O P H _ _ _ I L.ex h fun J xs δ1 O1 H1 R1 s1 it h1 => ?_
  have L1 := L.step s1
  refine ⟨fun i m σc Hc => ∃ (δc : DSt) (Oc : List Addr), m = xs.length - i ∧ i ≤ xs.length ∧ Rel δc σc Oc P Hc ∧ Stp O1 H1 Oc Hc ∧ forD g tb DD (xs.drop i) δc, ⟨xs.length, δ1, O1, rfl, Nat.zero_le _, R1, .refl, h1⟩, ?_⟩
  rintro i m σc Hc ⟨δc, Oc, rfl, hi', Rc, sc, hc'⟩
  by_cases hlt : i < xs.length
  · have hx : xs[i]? = some xs[i] := List.getElem?_eq_getElem hlt
    rw [List.drop_eq_getElem_cons hlt] at hc'
    have hgo := (it Oc Hc sc.le Rc.trk i).1 _ hx
    refine .inr ⟨hgo.1, (fun σ' H' => ∃ (δc : DSt) (Oc : List Addr), Rel δc σ' Oc P H' ∧ Stp O1 H1 Oc H' ∧ forD g tb DD (xs.drop (i + 1)) δc), fun σ' H' n => ?_, fun x H' y => ?_⟩
    · obtain ⟨δc, Oc, q1, q2, q3⟩ := n
      exact ⟨xs.length - (i + 1), by omega, δc, Oc, rfl, hlt, q1, q2, q3⟩
    · obtain ⟨dx, hH⟩ := hgo.2 x H' y
      have Rn : Rel δc σc Oc P H' ∧ Stp Oc Hc Oc H' := by
        rcases hH with rfl | ⟨T, o, nT, rfl⟩
        · exact ⟨Rc, .refl⟩
        · exact ⟨Rc.newd nT, .newd nT⟩
      obtain ⟨Rn, sn⟩ := Rn
      have sn1 := sc.trans sn
      refine qg _ x δc σc Oc P H' _ _ Rn dx hc' fun δ2 σ2 O2 H2 R2 s2 _ h2 => ?_
      have s12 := sn1.trans s2
      refine qb δ2 σ2 O2 P H2 { DD with nx := forD g tb DD (xs.drop (i + 1)), ct := forD g tb DD (xs.drop (i + 1)), bk := DD.nx } _ R2 ⟨fun δ' σ' O' H'' r s z => ⟨δ', O', r, s12.trans s, z⟩, fun r v δ' σ' O' H'' g s z => L1.rt r v δ' σ' O' H'' g (s12.trans s) z, fun δ' σ' O' H'' r s z => L1.nx δ' σ' O' H'' r (s12.trans s) z, fun δ' σ' O' H'' r s z => ⟨δ', O', r, s12.trans s, z⟩, L1.ex.step s12⟩ h2
  · have e : i = xs.length := by omega
    subst e
    rw [List.drop_length] at hc'
    have hst := (it Oc Hc sc.le Rc.trk xs.length).2 rfl
    exact .inl ⟨hst, L1.nx δc σc Oc Hc Rc sc hc'⟩
end
end DL

namespace DL
open PySem L2 RZ
/-! ## 13. a, b = x, y and a, b, c = x, y, z with plain local names: new lists stay nobody's until they are stored -/
section
variable {δ : DSt} {σ : L2.St} {O P P' : List Addr} {H : Hp} {p : Addr} {ps : List Addr}
theorem Rel.congrP (R : Rel δ σ O P H) (h : ∀ a, a ∈ P ↔ a ∈ P') : Rel δ σ O P' H := by
  have hz : frz (O ++ P) H = frz (O ++ P') H := frz_congr fun a => by simp only [List.mem_append, h a]
  exact ⟨R.len, fun i x e => let ⟨v, a, b⟩ := R.dat i x e; ⟨v, a, by rw [← hz]; exact b⟩, fun i m xs e => let ⟨a, ws, h1, h2, h3, h4, h5⟩ := R.own i m xs e; ⟨a, ws, h1, h2, h3, h4, by rw [← hz]; exact h5⟩, R.inj,
    fun a m => R.trk a (by rcases List.mem_append.mp m with m | m; exact List.mem_append_left _ m; exact List.mem_append_right _ ((h a).mpr m)), fun a m z => R.dis a m ((h a).mpr z)⟩
theorem ExW.underP {E : XS} {R : RX} (w : ExW E O P H R) : ExW E O (p :: P) H R := fun C dd xs δ' σ' O' H' R' s e r => w C dd xs δ' σ' O' H' R'.dropp s (by
  rcases e with e | ⟨d, fs, e1, e2, e3⟩
  · exact .inl e
  · exact .inr ⟨d, fs, e1, e2, Paired.mapP e3 fun a b q => ⟨q.1, dp_le frz_dropP _ _ q.2⟩⟩) r
end
@[reducible] def Rs.ag : Rs → Ag
  | .d x => .d x
  | .f xs => .o xs
  | .p xs ys => .d (.tuple [.list xs, .list ys])
theorem AgRel.le {Z Z' : List Addr} {H H' : Hp} (e : Le (frz Z H) (frz Z' H')) : ∀ {as : List Ag} {vs : List V} {ms : List Addr}, (∀ m ∈ ms, ∀ o, H m = some o → H' m = some o) → AgRel Z H as vs ms → AgRel Z' H' as vs ms
  | [], [], [], _, _ => trivial
  | [], _ :: _, _, _, h => by simp [AgRel] at h
  | [], [], _ :: _, _, h => by simp [AgRel] at h
  | .d x :: as, [], _, _, h => by simp [AgRel] at h
  | .d x :: as, v :: vs, ms, k, h => by simp only [AgRel] at h ⊢; exact ⟨dp_le e _ _ h.1, AgRel.le e k h.2⟩
  | .o x :: as, [], _, _, h => by simp [AgRel] at h
  | .o x :: as, v :: vs, [], _, h => by simp [AgRel] at h
  | .o x :: as, v :: vs, m :: ms, k, h => by
    simp only [AgRel] at h ⊢
    obtain ⟨h1, ⟨ws, h2, h3⟩, h4⟩ := h
    exact ⟨h1, ⟨ws, k m (by simp) _ h2, dpa_le e _ _ h3⟩, AgRel.le e (fun m' hm => k m' (by simp [hm])) h4⟩
theorem Rel.otop {δ : DSt} {σ : L2.St} {O P : List Addr} {H : Hp} {p : Addr} (R1 : Rel δ σ O P H) (R : Rel δ σ (p :: O) P H) (n : p ∉ O) : Rel δ σ O (p :: P) H where
  len := R.len
  dat := fun i x e => let ⟨v, a, b⟩ := R.dat i x e; ⟨v, a, by rw [← frzPO]; exact b⟩
  own := fun i m xs e => by
    obtain ⟨a, ws, h1, h2, h3, h4, h5⟩ := R.own i m xs e
    obtain ⟨a', _, g1, _, g3, _⟩ := R1.own i m xs e
    rw [g1] at h1; cases h1
    exact ⟨_, ws, g1, h2, g3, h4, by rw [← frzPO]; exact h5⟩
  inj := R.inj
  trk := fun a m => R.trk a ((memPO a).mpr m)
  dis := fun a m z => by
    rcases List.mem_cons.mp z with z | z
    · exact n (by rw [← z]; exact m)
    · exact R1.dis a m z
theorem pend_le {O1 O2 P ps : List Addr} {H1 H2 : Hp} (s2 : Stp O1 H1 O2 H2) (np : ∀ p ∈ ps, p ∉ P ∧ (H1 p = none ∨ p ∈ O1)) : Le (frz (O1 ++ P) H1) (frz (O2 ++ (ps ++ P)) H2) := fun a o ha => by
  obtain ⟨n, ha⟩ := frz_some.mp ha
  simp only [List.mem_append, not_or] at n
  obtain ⟨k1, k2⟩ := s2.keep a o ha n.1
  refine frz_some.mpr ⟨?_, k1⟩
  simp only [List.mem_append, not_or]
  refine ⟨k2, fun z => ?_, n.2⟩
  rcases (np a z).2 with q | q
  · rw [q] at ha; cases ha
  · exact n.1 q
abbrev TRs := DSt → RX → (List Rs → DSt → Prop) → Prop
structure DRs (X : Cx) (E : XS) (es : List Expr) (t : TRs) : Prop where
  ex : ∃ ta, PA X es ta ∧ ∀ (δ : DSt) (σ : L2.St) (O P : List Addr) (H : Hp) (R : RX) (Q' : List Rs → DSt → Prop) (Q : List V → Hp → Prop), Rel δ σ O P H → ExW E O P H R → t δ R Q' →
    (∀ rs vs δ' O' ps H', ps.Nodup → (∀ p ∈ ps, p ∉ P ∧ (H p = none ∨ p ∈ O)) → Rel δ' σ O' (ps ++ P) H' → AgRel (O' ++ (ps ++ P)) H' (rs.map Rs.ag) vs ps → Stp O H O' H' → Q' rs δ' → Q vs H') → ta σ H Q
section
variable {X : Cx} {E : XS} {e : Expr} {es : List Expr} {pos : Pos} {te : TD} {ts : TRs}
def rNil : TRs := fun δ _ Q => Q [] δ
def rCons (t : TD) (ts : TRs) : TRs := fun δ R Q => t δ R fun r δ1 => ts δ1 R fun rs δ2 => Q (r :: rs) δ2
theorem drs_nil : DRs X E [] rNil := ⟨_, pa_nil, fun δ σ O P H R Q' Q I w h k => k [] [] δ O [] H .nil (fun _ z => by cases z) I trivial .refl h⟩
theorem drs_cons (ha : DE X E e te) (hr : DRs X E es ts) (hs : starEach (e :: es) X.env = (false, eval e X.env) :: starEach es X.env := by rfl) : DRs X E (e :: es) (rCons te ts) := by
  obtain ⟨t, p, q⟩ := ha.ex
  obtain ⟨t', p', q'⟩ := hr.ex
  refine ⟨_, pa_cons p p' hs, fun δ σ O P H R Q' Q I w h k => ?_⟩
  refine q δ σ O P H R _ _ I w h fun r v δ1 O1 H1 g s1 h1 => ?_
  have back : ∀ (O1 : List Addr), Stp O H O1 H1 → ∀ p, (H1 p = none ∨ p ∈ O1) → (H p = none ∨ p ∈ O) := fun O1 s1 p z => by
    cases hH : H p with
    | none => exact .inl rfl
    | some o =>
      by_cases hO : p ∈ O
      · exact .inr hO
      · obtain ⟨k1, k2⟩ := s1.keep p o hH hO
        rcases z with z | z
        · rw [z] at k1; cases k1
        · exact (k2 z).elim
  cases r with
  | d x =>
    obtain ⟨R1, d1⟩ := g
    refine q' δ1 σ O1 P H1 R _ _ R1 (w.step s1) h1 fun rs vs δ2 O2 ps H2 nd np R2 a2 s2 h2 => ?_
    exact k (.d x :: rs) (v :: vs) δ2 O2 ps H2 nd (fun p hp => ⟨(np p hp).1, back O1 s1 p (np p hp).2⟩) R2 ⟨dp_le (pend_le s2 np) _ _ d1, a2⟩ (s1.trans s2) h2
  | p xs ys =>
    obtain ⟨O3, R1, d1, s3⟩ := Got.share g s1
    refine q' δ1 σ O3 P H1 R _ _ R1 (w.step s3) h1 fun rs vs δ2 O2 ps H2 nd np R2 a2 s2 h2 => ?_
    exact k (.p xs ys :: rs) (v :: vs) δ2 O2 ps H2 nd (fun p hp => ⟨(np p hp).1, back O3 s3 p (np p hp).2⟩) R2 ⟨dp_le (pend_le s2 np) _ _ d1, a2⟩ (s3.trans s2) h2
  | f xs =>
    obtain ⟨p, ws, O3, rfl, rfl, n1, n2, R1, R2, hp, da⟩ := g
    have s1' : Stp O H O3 H1 := ⟨fun a o h n => ⟨(s1.keep a o h n).1, fun z => (s1.keep a o h n).2 (List.mem_cons_of_mem _ z)⟩, s1.there⟩
    have hpn : H p = none ∨ p ∈ O := back (p :: O3) s1 p (.inr List.mem_cons_self)
    refine q' δ1 σ O3 (p :: P) H1 R _ _ (R1.otop R2 n1) (w.step s1').underP h1 fun rs vs δ2 O2 ps H2 nd np R3 a2 s2 h2 => ?_
    have hmem : ∀ a, a ∈ ps ++ (p :: P) ↔ a ∈ (p :: ps) ++ P := fun a => (memPO a).symm
    have hz : frz (O2 ++ (ps ++ (p :: P))) H2 = frz (O2 ++ ((p :: ps) ++ P)) H2 := frz_congr fun a => by simp only [List.mem_append (s := O2), hmem a]
    refine k (.f xs :: rs) (.ref p :: vs) δ2 O2 (p :: ps) H2 (List.nodup_cons.mpr ⟨fun z => (np p z).1 List.mem_cons_self, nd⟩) (fun a m => ?_) (R3.congrP hmem) ⟨rfl, ⟨ws, (s2.keep p _ hp n1).1, ?_⟩, ?_⟩ (s1'.trans s2) h2
    · rcases List.mem_cons.mp m with m | m
      · rw [m]; exact ⟨n2, hpn⟩
      · have q := np a m
        simp only [List.mem_cons, not_or] at q
        exact ⟨q.1.2, back O3 s1' a q.2⟩
    · rw [frzPO] at da
      exact hz ▸ dpa_le (pend_le s2 np) _ _ da
    · exact AgRel.le (by rw [hz]; exact Le.refl _) (fun _ _ _ h => h) a2
/-- the stores -/
def setAll : List Nat → List Rs → DSt → DSt
  | i :: is, r :: rs, δ => setAll is rs (ss δ i r.sl)
  | _, _, δ => δ
def setV : List Nat → List V → L2.St → L2.St
  | i :: is, v :: vs, σ => setV is vs (σ.set i (some v))
  | _, _, σ => σ
theorem set_pend {P : List Addr} {H : Hp} : ∀ (is : List Nat) (rs : List Rs) (vs : List V) (ps O : List Addr) (δ : DSt) (σ : L2.St), is.length = rs.length → (∀ i ∈ is, i < δ.length) → ps.Nodup → (∀ p ∈ ps, p ∉ P) → Rel δ σ O (ps ++ P) H → AgRel (O ++ (ps ++ P)) H (rs.map Rs.ag) vs ps →
    ∃ O', Rel (setAll is rs δ) (setV is vs σ) O' P H ∧ ∀ a ∈ O', a ∈ O ∨ a ∈ ps
  | [], [], [], [], O, δ, σ, _, _, _, _, R, _ => ⟨O, R, fun _ z => .inl z⟩
  | [], [], _ :: _, _, _, _, _, _, _, _, _, _, h => by simp [AgRel] at h
  | [], [], [], _ :: _, _, _, _, _, _, _, _, _, h => by simp [AgRel] at h
  | [], _ :: _, _, _, _, _, _, h, _, _, _, _, _ => by simp at h
  | _ :: _, [], _, _, _, _, _, h, _, _, _, _, _ => by simp at h
  | i :: is, .d x :: rs, [], _, _, _, _, _, _, _, _, _, h => by simp [AgRel] at h
  | i :: is, .f x :: rs, [], _, _, _, _, _, _, _, _, _, h => by simp [AgRel] at h
  | i :: is, .p x y :: rs, [], _, _, _, _, _, _, _, _, _, h => by simp [AgRel] at h
  | i :: is, .p x y :: rs, v :: vs, ps, O, δ, σ, hl, hb, nd, np, R, h => by
    simp only [List.map_cons, AgRel] at h
    have hi := hb i List.mem_cons_self
    have R1 := R.set_pun (v := v) hi
    rw [← ss_eq] at R1
    exact set_pend is rs vs ps O _ _ (by simpa using hl) (fun j hj => by rw [ss_length]; exact hb j (List.mem_cons_of_mem _ hj)) nd np R1 h.2
  | i :: is, .f x :: rs, _ :: _, [], _, _, _, _, _, _, _, _, h => by simp [AgRel] at h
  | i :: is, .d x :: rs, v :: vs, ps, O, δ, σ, hl, hb, nd, np, R, h => by
    simp only [List.map_cons, AgRel] at h
    have hi := hb i List.mem_cons_self
    have R1 := R.set_d h.1 hi
    rw [← ss_eq] at R1
    exact set_pend is rs vs ps O _ _ (by simpa using hl) (fun j hj => by rw [ss_length]; exact hb j (List.mem_cons_of_mem _ hj)) nd np R1 h.2
  | i :: is, .f x :: rs, v :: vs, p :: ps, O, δ, σ, hl, hb, nd, np, R, h => by
    simp only [List.map_cons, AgRel] at h
    obtain ⟨rfl, ⟨ws, hp, hd⟩, h⟩ := h
    have hi := hb i List.mem_cons_self
    obtain ⟨nd1, nd2⟩ := List.nodup_cons.mp nd
    have nO : p ∉ O := fun z => R.dis p z (by simp)
    have R' : Rel δ σ O (p :: (ps ++ P)) H := R
    have nP : p ∉ ps ++ P := by
      simp only [List.mem_append, not_or]
      exact ⟨nd1, np p List.mem_cons_self⟩
    have hd' : DqAll (frz ((p :: O) ++ (ps ++ P)) H) ws x := by rw [frzPO]; exact hd
    have R1 := Rel.set_f nO R'.dropp (R'.ptoo nP) hp hd' hi
    rw [← ss_eq] at R1
    have hz : frz (O ++ ((p :: ps) ++ P)) H = frz ((p :: O) ++ (ps ++ P)) H := frzPO.symm
    obtain ⟨O', R2, s2⟩ := set_pend is rs vs ps (p :: O) _ _ (by simpa using hl) (fun j hj => by rw [ss_length]; exact hb j (List.mem_cons_of_mem _ hj)) nd2 (fun q hq => np q (List.mem_cons_of_mem _ hq)) R1 (AgRel.le (by rw [hz]; exact Le.refl _) (fun _ _ _ h => h) h)
    refine ⟨O', R2, fun a m => ?_⟩
    rcases s2 a m with z | z
    · rcases List.mem_cons.mp z with z | z
      · exact .inr (by rw [z]; exact List.mem_cons_self)
      · exact .inl z
    · exact .inr (List.mem_cons_of_mem _ z)
def sPar (is : List Nat) (ts : TRs) : TSd := fun D δ => ts δ D.ex fun rs δ1 => is.length = rs.length ∧ (∀ i ∈ is, i < δ1.length) ∧ D.nx (setAll is rs δ1)
theorem AgRel.rlen {Z : List Addr} {H : Hp} {rs : List Rs} {vs : List V} {ms : List Addr} (h : AgRel Z H (rs.map Rs.ag) vs ms) : vs.length = rs.length := by rw [h.len, List.length_map]
theorem par_step {δ1 : DSt} {σ : L2.St} {O O1 P ps : List Addr} {H H1 : Hp} {rs : List Rs} {vs : List V} {is : List Nat} {DD : DEnds} {D : Ends} (L : Lnk DD D E O P H) (nd : ps.Nodup) (np : ∀ p ∈ ps, p ∉ P ∧ (H p = none ∨ p ∈ O)) (R1 : Rel δ1 σ O1 (ps ++ P) H1) (a1 : AgRel (O1 ++ (ps ++ P)) H1 (rs.map Rs.ag) vs ps)
    (s1 : Stp O H O1 H1) (h : is.length = rs.length ∧ (∀ i ∈ is, i < δ1.length) ∧ DD.nx (setAll is rs δ1)) : D.nx (setV is vs σ) H1 := by
  obtain ⟨O2, R2, s2⟩ := set_pend is rs vs ps O1 δ1 σ h.1 h.2.1 nd (fun p hp => (np p hp).1) R1 a1
  refine L.nx _ _ O2 H1 R2 ⟨fun a o ha n => ⟨(s1.keep a o ha n).1, fun z => ?_⟩, s1.there⟩ h.2.2
  rcases s2 a z with z | z
  · exact (s1.keep a o ha n).2 z
  · rcases (np a z).2 with q | q
    · rw [q] at ha; cases ha
    · exact n q
theorem ds_par {i j : Nat} {x y : Str} {a b : Expr} {px py pt : Pos} {kt k2 pt2} (hc : X.calm = true) (hN : X.N.Nodup) (hi : X.N[i]? = some x) (hj : X.N[j]? = some y) (hij : i ≠ j)
    (hx : X.env.scope.names.lookup x = some .local) (hy : X.env.scope.names.lookup y = some .local) (ha : DRs X E [a, b] ts)
    (hw : swappedStores [.Tuple [.Name x px, .Name y py] kt pt] (.Tuple [a, b] k2 pt2) X.env = pure (some [x, y]))
    (hs : swapsWithSole [.Tuple [.Name x px, .Name y py] kt pt] (.Tuple [a, b] k2 pt2) pos.line X.env = pure false := by rfl) :
    DS X E (.Assign [.Tuple [.Name x px, .Name y py] kt pt] (.Tuple [a, b] k2 pt2) pos) (sPar [i, j] ts) := by
  obtain ⟨t, p, q⟩ := ha.ex
  refine ⟨_, ps_par hc hN hi hj hij hx hy p hw hs, fun δ σ O P H DD D I L h => ?_⟩
  refine q δ σ O P H _ _ _ I L.ex h fun rs vs δ1 O1 ps H1 nd np R1 a1 s1 h1 => ?_
  have el := a1.rlen.trans h1.1.symm
  obtain _ | ⟨v, _ | ⟨w, _ | ⟨z, vs⟩⟩⟩ := vs
  · simp at el
  · simp at el
  · exact ⟨v, w, rfl, par_step L nd np R1 a1 s1 h1⟩
  · simp at el
theorem ds_par3 {i j l : Nat} {x y z : Str} {a b c : Expr} {px py pz pt : Pos} {kt k2 pt2} (hc : X.calm = true) (hN : X.N.Nodup) (hi : X.N[i]? = some x) (hj : X.N[j]? = some y) (hl : X.N[l]? = some z) (hij : i ≠ j) (hil : i ≠ l) (hjl : j ≠ l)
    (hx : X.env.scope.names.lookup x = some .local) (hy : X.env.scope.names.lookup y = some .local) (hz : X.env.scope.names.lookup z = some .local) (ha : DRs X E [a, b, c] ts)
    (hw : swappedStores [.Tuple [.Name x px, .Name y py, .Name z pz] kt pt] (.Tuple [a, b, c] k2 pt2) X.env = pure (some [x, y, z]))
    (hs : swapsWithSole [.Tuple [.Name x px, .Name y py, .Name z pz] kt pt] (.Tuple [a, b, c] k2 pt2) pos.line X.env = pure false := by rfl) :
    DS X E (.Assign [.Tuple [.Name x px, .Name y py, .Name z pz] kt pt] (.Tuple [a, b, c] k2 pt2) pos) (sPar [i, j, l] ts) := by
  obtain ⟨t, p, q⟩ := ha.ex
  refine ⟨_, ps_par3 hc hN hi hj hl hij hil hjl hx hy hz p hw hs, fun δ σ O P H DD D I L h => ?_⟩
  refine q δ σ O P H _ _ _ I L.ex h fun rs vs δ1 O1 ps H1 nd np R1 a1 s1 h1 => ?_
  have el := a1.rlen.trans h1.1.symm
  obtain _ | ⟨v, _ | ⟨w, _ | ⟨u, _ | ⟨u', vs⟩⟩⟩⟩ := vs
  · simp at el
  · simp at el
  · simp at el
  · exact ⟨v, w, u, rfl, par_step L nd np R1 a1 s1 h1⟩
  · simp at el
end
end DL

namespace DL
open PySem L2 RZ PySem.Spec PyProof.Rows
/-! ## 22. Defs run where nothing is being shown -/
structure RoomG (k : Nat) (A : Around) : Prop where
  room : Room k A
  gd : A.guards = some []
theorem RoomG.mono {j k : Nat} {A : Around} (r : RoomG k A) (h : j ≤ k) : RoomG j A := ⟨r.room.mono h, r.gd⟩
theorem RoomG.deeper {k : Nat} {A : Around} (r : RoomG (k + 1) A) (env : Env) : RoomG k (A.deeper env) := ⟨r.room.deeper env, r.gd⟩
theorem RoomG.un {k : Nat} {A : Around} (r : RoomG k A) : A.units + 16 * k + 200 < cLine := r.room.un
structure FnG (P : Program) (w : World) (K : PySem.W.Frag) (mg : Str → Option Value) (base : Heap) (CX : CXT) (k : Nat) (f : Addr) (fd : FuncData) (ps : List Str) (sp : Sp) : Prop where
  len : ∀ vs H Q E, sp vs H Q E → vs.length = ps.length
  run : ∀ (A : Around) (outer : List Env) (s : Shared) (H : Hp) (ar : Args) (us : List Value) (vs : List V) (Q : VK) (E : XK), RoomG k A →
    Env0 P w K mg base A outer s H → BindsTo s fd ar (ps.zip us) → Vals vs us → sp vs H Q E → codeAny (model P w) A (.call (.ref f) ar) (CR CX outer P w H s Q E) s
section
variable {P : Program} {w : World} {K : PySem.W.Frag} {mg : Str → Option Value} {base : Heap} {CX : CXT}
theorem okG {x qual : Str} {st : Stmt} {f : Addr} {fd : FuncData} {N ps : List Str} {k : Nat} {sp : Sp} (F : Fun K x qual st f fd) (Sc : FnScope N ps (defScope st)) (hlen : ∀ vs H Q E, sp vs H Q E → vs.length = ps.length)
    (hb : ∀ (cdv : Value) (A : Around) (outer : List Env) (s : Shared) (H : Hp) (vs : List V) (Q : VK) (E : XK), RoomG k (A.deeper (envOfC qual (defScope st) s.heap.objs.size f cdv)) → sp vs H Q E →
      ∃ t, PSs (cxOf CX P w K mg base N qual (defScope st) f cdv A outer s H E) (defBody st) t ∧ t { nx := fun _ H' => Q .non H', rt := Q } (L2.start N vs) H) : FnG P w K mg base CX (k + 1) f fd ps sp := by
  obtain ⟨oc, od, kV, doc, pm, an, cdv, ct, osl, rfl, lk, hcd⟩ := F.ex
  constructor
  · exact hlen
  intro A outer s H ar us vs Q E hr e0 bi rv hsp
  have keepK : K.In s.heap := e0.mod.kin.keeps (fun b o e => (e0.bs b o e).1)
  have kinds : ∀ y ∈ ps.zip us, (defScope st).names.lookup y.1 = some .local ∨ ((defScope st).names.lookup y.1 = some .cell ∧ ((cellsFrom (s.heap.objs.size + 1) (defScope st).names []).lookup y.1).isSome = true) := by
    rintro ⟨n, v⟩ hy
    rcases Sc.par n (List.of_mem_zip hy).1 with q | q
    · left; exact q
    · right; exact ⟨q, PySem.W.cellsFrom_some _ _ _ (.inl q)⟩
  apply codeAny_call_function hr.room.depth (keepK _ _ lk) rfl Sc.co Sc.gen rfl (PySem.W.codeRec_of keepK hcd) (bi _ _ _ _ ?_)
  apply wpAny_newFunctionEnv_cells Sc.kind kinds
  intro env he s1 x1
  subst he
  refine ⟨(e0.mod.nolimit.keeps fun b o e => (e0.bs b o e).1).keeps x1.toInCall.keep, codeAny_func ?_⟩
  obtain ⟨t, ht, hq⟩ := hb cdv A outer s H vs Q E (hr.deeper _) hsp
  have I0 := inv_start (CX := CX) (P := P) (w := w) (mg := mg) (base := base) (E := E) Sc hr.room.hd e0 (hlen _ _ _ _ hsp) rv x1
  refine wpAny_mono (ht.run [] s1 (L2.start N vs) H _ I0 hq) ?_ (fun e s' z => z)
  rintro (_ | _ | _ | u) s' hs
  · obtain ⟨σ', H', J, q⟩ := hs
    exact ⟨V.non, H', J.os, J.bare, J.base, J.hok, rfl, q⟩
  · obtain ⟨_, _, _, q⟩ := hs
    exact q.elim
  · obtain ⟨_, _, _, q⟩ := hs
    exact q.elim
  · obtain ⟨v, σ', H', J, rv', q⟩ := hs
    exact ⟨v, H', J.os, J.bare, J.base, J.hok, rv', q⟩
theorem FnG.mono {j k : Nat} {f : Addr} {fd : FuncData} {ps : List Str} {sp : Sp} (F : FnG P w K mg base CX j f fd ps sp) (h : j ≤ k) : FnG P w K mg base CX k f fd ps sp :=
  ⟨F.len, fun A outer s H ar us vs Q E hr e b v q => F.run A outer s H ar us vs Q E (hr.mono h) e b v q⟩
end
section
variable {X : Cx} {CX : CXT} {k : Nat} {f : Addr} {fd : FuncData} {ps : List Str} {sp : Sp}
/-- behind the call: what came out goes on -/
theorem outG {pins : List (Addr × Obj)} {σ : L2.St} {H : Hp} {s : Shared} {Q : VK} {E : XK} (I : Inv X pins σ H s) (hx : PassesAt CX X σ E) : ∀ (r : Result) (s' : Shared), CR CX X.stack X.prog X.w H s Q E r s' →
    match r with
    | .ok (.ret u) => EP X pins σ Q u s'
    | .ok _ => False
    | .error e => X.xe e s'
  | .error e, s', z => hx pins H s e s' I z
  | .ok (.ret u), s', z => I.after z
  | .ok .next, s', z => (z : False)
  | .ok .brk, s', z => (z : False)
  | .ok .cont, s', z => (z : False)
theorem runG {pins : List (Addr × Obj)} {σ : L2.St} {H : Hp} {s : Shared} {Q : VK} {E : XK} {ar : Args} {us : List Value} {vs : List V} (F : FnG X.prog X.w X.K X.mg X.base CX k f fd ps sp) (hr : RoomG k X.A) (hx : PassesAt CX X σ E) (I : Inv X pins σ H s) (hb : BindsTo s fd ar (ps.zip us)) (rv : Vals vs us) (q : sp vs H Q E) :
    codeAny (model X.prog X.w) X.A (.call (.ref f) ar) (fun r s' => match r with
    | .ok (.ret u) => EP X pins σ Q u s'
    | .ok _ => False
    | .error e => X.xe e s') s :=
  codeAny_mono (F.run X.A X.stack s H ar us vs Q E hr I.env0 hb rv q) fun r s' z => outG I hx r s' z
theorem goG {pins : List (Addr × Obj)} {σ : L2.St} {H : Hp} {s : Shared} {Q : VK} {E : XK} {us : List Value} {vs : List V} (F : FnG X.prog X.w X.K X.mg X.base CX k f fd ps sp) (hr : RoomG k X.A) (hb : Binds X.K fd ps []) (hx : PassesAt CX X σ E) (I : Inv X pins σ H s) (rv : Vals vs us) (q : sp vs H Q E) :
    wpAny (model X.prog X.w) X.A (call (.ref f) us) (EP X pins σ Q) X.xe s := by
  have hl := rv.length.symm.trans (F.len _ _ _ _ q)
  have bi := hb s us I.kIn (by simpa using hl)
  rw [List.append_nil] at bi
  apply wpAny_call
  apply codeAny_mono (runG F hr hx I bi rv q)
  rintro (e | (_ | _ | _ | u)) s' z
  · exact z
  · exact z.elim
  · exact z.elim
  · exact z.elim
  · exact z
theorem pe_callG {x : Str} {p pos : Pos} {e : Expr} {es : List Expr} {t : TA} {E : XS} (F : FnG X.prog X.w X.K X.mg X.base CX k f fd ps sp) (hr : RoomG k X.A) (hg : Gl X x) (hm : X.mg x = some (.ref f)) (hk : PySem.W.keepIn X.K (.ref f) = true) (hb : Binds X.K fd ps []) (hx : ∀ σ, PassesAt CX X σ (E σ))
    (ha : PA X (e :: es) t) (hdb : (x == ("__debug__" : Str)) = false := by decide) (he : starEach (e :: es) X.env = (false, eval e X.env) :: starEach es X.env := by rfl) (hpl : (backTo pos (starEach es X.env)).any (·.1) = false := by rfl) :
    PE X (.Call (.Name x p) (e :: es) [] pos) (tCallS sp E t) := by
  constructor
  intro pins s σ H Q I h
  apply wpAny_Call_Name_kw (ld_glob I hg hm ?_ hdb)
  refine PySem.W.callWith_K (h₀ := X.base) I.ok.mod.kin hk ?_ he hpl
  refine thn (ha.run pos pins s σ H _ I h) ?_
  rintro us s1 ⟨vs, H1, I1, rv, q⟩
  exact ⟨I1.kIn, goG F hr hb (hx σ) I1 rv q⟩
theorem pe_callKG {x : Str} {p pos : Pos} {ks : List Str} {kws : List Keyword} {tk : TA} {E : XS} {perm : {α : Type} → List α → List α} (F : FnG X.prog X.w X.K X.mg X.base CX k f fd ps sp) (hr : RoomG k X.A) (hg : Gl X x) (hm : X.mg x = some (.ref f)) (hk : PySem.W.keepIn X.K (.ref f) = true)
    (hb : ∀ us : List Value, us.length = ps.length → bindArgs fd ⟨[], ks.zip us⟩ = pure (ps.zip (perm us))) (hp : ∀ (vs : List V) (us : List Value), Vals vs us → Vals (perm vs) (perm us)) (hx : ∀ σ, PassesAt CX X σ (E σ)) (hkw : PK X kws tk)
    (hall : (backToKw pos (keywordEach kws X.env)).all (·.1.isSome) = true := by rfl) (hks : (backToKw pos (keywordEach kws X.env)).filterMap (·.1) = ks := by rfl)
    (hdb : (x == ("__debug__" : Str)) = false := by decide) (hpl : ((backTo pos (starEach [] X.env)).any (·.1) || (backToKw pos (keywordEach kws X.env)).any (·.1.isNone)) = false := by rfl) :
    PE X (.Call (.Name x p) [] kws pos) (fun σ H Q => tk σ H fun zs H1 => zs.length = ps.length ∧ sp (perm zs) H1 Q (E σ)) := by
  constructor
  intro pins s σ H Q I h
  apply wpAny_Call_Name_kw (ld_glob I hg hm ?_ hdb)
  refine PySem.W.callWith_KW0 (h₀ := X.base) I.ok.mod.kin hk hall ?_ hpl
  refine thn (hkw.run pos pins s σ H _ I h) ?_
  rintro us s1 ⟨vs, H1, I1, rv, hl, q⟩
  refine ⟨I1.kIn, ?_⟩
  rw [hks]
  apply wpAny_call
  apply codeAny_mono (runG F hr (hx σ) I1 (.of_eq (hb us (rv.length.symm.trans hl))) (hp _ _ rv) q)
  rintro (e | (_ | _ | _ | u)) s' z
  · exact z
  · exact z.elim
  · exact z.elim
  · exact z.elim
  · exact z
end
/-! ### the law's end -/
def noList (K : PySem.W.Frag) : Bool := K.all fun p => match p.2.cls with
  | .type n => n != "list"
  | _ => true
theorem noList_of : ∀ {K : PySem.W.Frag} {a : Addr} {o : Obj}, noList K = true → List.lookup a K = some o → o.cls ≠ .type "list"
  | [], a, o, _, e => by cases e
  | (b, u) :: K, a, o, h, e => by
    unfold noList at h
    simp only [List.all_cons, Bool.and_eq_true] at h
    rw [List.lookup_cons] at e
    split at e
    · cases e
      intro z
      have h1 : (match u.cls with | .type n => n != "list" | _ => true) = true := h.1
      rw [z] at h1
      exact absurd h1 (by decide)
    · exact noList_of (by unfold noList; exact h.2) e
def scrO (vs : List Value) : Obj := { cls := .type "list", data := .seq vs.toArray }
def scrH (a : Addr) (vs : List Value) (ns : List Int) : Hp := fun b => if b = a then some (.frz (scrO vs) (.lst (ns.map V.int))) else none
theorem scrH_at {a : Addr} {vs : List Value} {ns : List Int} : scrH a vs ns a = some (.frz (scrO vs) (.lst (ns.map V.int))) := if_pos rfl
theorem scrH_ne {a b : Addr} {vs : List Value} {ns : List Int} (h : b ≠ a) : scrH a vs ns b = none := if_neg h
theorem scrH_some {a b : Addr} {vs : List Value} {ns : List Int} {u : HO} (h : scrH a vs ns b = some u) : b = a ∧ u = .frz (scrO vs) (.lst (ns.map V.int)) := by
  by_cases e : b = a
  · subst e; rw [scrH_at] at h; exact ⟨rfl, (Option.some.inj h).symm⟩
  · rw [scrH_ne e] at h; cases h
theorem lawG {P : Program} {w : World} {K : PySem.W.Frag} {mg mb : Str → Option Value} {k : Nat} {fa a : Addr} {fd : FuncData} {x : Str} {sp : Sp} {s1 : Shared} {vs : List Value} {ns : List Int}
    (hK : noList K = true) (kin : K.In s1.heap) (hns : s1.heap.Ns mainGlobals mg) (hb : s1.heap.Ns builtinsNs mb) (hbb : ∀ x : Str, x ≠ "__name__" → mb x = bootBuiltins x) (lim : s1.heap.NoLimit) (hg : s1.gens = #[])
    (ha : s1.heap.get? a = some (scrO vs)) (hi : IntsAre vs ns) (hl : ns.length ≤ sizeLine) (hr : Room k callerA)
    (F : ∀ base : Heap, K.In base → base.Ns mainGlobals mg → FnG P w K mg base CX0 k fa fd [x] sp) (hbind : ∀ (s : Shared) (u : Value), BindsTo s fd ⟨[u], []⟩ [(x, u)])
    (hsp : ∀ H : Hp, Rd H a (.lst (ns.map V.int)) → sp [.ref a] H (fun v _ => v = .bl true) fun _ _ _ => False) :
    codeAny (model P w) callerA (.call (.ref fa) ⟨[.ref a], []⟩) (fun r s' => r = .ok (.ret (.bool true)) ∧ OldK s1.heap s'.heap ∧ s'.os = s1.os ∧ AllBare s'.gens) s1 := by
  have nk : K.lookup a = none := by
    cases q : K.lookup a with
    | none => rfl
    | some o =>
      have e := (kin a o q).symm.trans ha
      cases e
      exact absurd rfl (noList_of hK q)
  have keep : ∀ {b : Addr} {o : Obj}, b ≠ a → s1.heap.get? b = some o → (hidT s1.heap (scrH a vs ns)).get? b = some o := fun n e => hidT_get e (scrH_ne n)
  have keepN : ∀ {b : Addr} {m : Str → Option Value}, s1.heap.Ns b m → (hidT s1.heap (scrH a vs ns)).Ns b m := by
    rintro b m ⟨o, es, ep, e, d, r⟩
    refine ⟨o, es, ep, keep (fun z => ?_) e, d, r⟩
    subst z
    rw [ha] at e; cases e
    have d' : Data.seq vs.toArray _ = Data.dict es ep := d
    cases d'
  have kb : K.In (hidT s1.heap (scrH a vs ns)) := fun b o e => keep (fun z => by rw [z, nk] at e; cases e) (kin b o e)
  have md : Mod K mg (hidT s1.heap (scrH a vs ns)) := ⟨kb, keepN hns, ⟨mb, keepN hb, hbb⟩, by
    obtain ⟨mc, h1, h2⟩ := lim
    exact ⟨mc, keepN h1, h2⟩⟩
  have hok : HOk P w (scrH a vs ns) s1.heap := by
    intro b u e
    obtain ⟨rfl, rfl⟩ := scrH_some e
    exact ⟨ha, by rw [List.length_map]; exact hl, vs, _, vals_ints hi, ha⟩
  have e0 : Env0 P w K mg (hidT s1.heap (scrH a vs ns)) callerA [] s1 (scrH a vs ns) :=
    { frames := rfl, mod := md, bs := fun b o e => of_hidT e, bsz := Nat.le_of_eq (hidT_size _ _), funs := trivial, frf := fun b hb => (List.not_mem_nil (show b ∈ ([] : List Addr) from hb)).elim, hok := hok, bare := .of_eq hg }
  have run := (F _ kb (keepN hns)).run callerA [] s1 (scrH a vs ns) ⟨[.ref a], []⟩ [.ref a] [.ref a] _ _ ⟨hr, rfl⟩ e0 (hbind s1 (.ref a)) (.cons rfl .nil) (hsp _ (.inr ⟨_, scrH_at⟩))
  apply codeAny_mono run
  rintro (e | (_ | _ | _ | u)) s' z
  · exact (z : False).elim
  · exact (z : False).elim
  · exact (z : False).elim
  · exact (z : False).elim
  · obtain ⟨v, H', os, bare, un, hok', rv, q⟩ := z
    have q' : v = .bl true := q
    subst q'
    obtain rfl : u = Value.bool true := rv
    refine ⟨rfl, OldK.of_keep fun b o e => ?_, os, bare⟩
    by_cases n : b = a
    · subst n
      obtain ⟨e2, _⟩ := hok' _ _ (un.frzs _ _ _ scrH_at)
      rw [ha] at e; cases e
      exact e2
    · exact un.keep b o e (scrH_ne n) (fun z => (List.not_mem_nil (show b ∈ ([] : List Addr) from z)).elim) (by simp)
theorem walkG {l : PySem.W.OpenLaw} {k : Nat} {q : Program} {loose : List Str} {XP : (Str → Option Value) → Heap → Prop} {YP : World → Heap → Prop} {d : DefRec} {K : Params → PySem.W.Frag} {sp : Sp} {x : Str}
    (hn : l.most = some 63) (hdf : d.params.defaults = []) (hr : Room k callerA) (hY : ∀ (w : World) (h : Heap), YP w h → (K w.params).In h) (hK : ∀ p, noList (K p) = true)
    (F : ∀ (w : World) (mg : Str → Option Value) (fa : Addr) (h : Heap), (K w.params).In h → h.Ns mainGlobals mg → mg d.name = some (.ref fa) →
      ∃ fd : FuncData, (∀ (s : Shared) (u : Value), BindsTo s fd ⟨[u], []⟩ [(x, u)]) ∧ ∀ base : Heap, (K w.params).In base → base.Ns mainGlobals mg → FnG l.prog w (K w.params) mg base CX0 k fa fd [x] sp)
    (hsp : ∀ (H : Hp) (a : Addr) (ns : List Int), ns.length ≤ 63 → (∀ z ∈ ns, Builtin.Int.intBits z ≤ 1048576) → Rd H a (.lst (ns.map V.int)) → sp [.ref a] H (fun v _ => v = .bl true) fun _ _ _ => False) :
    PySem.W.WalkO q loose XP YP l.row.toRowW d [] (fun f vs => PySem.call f vs) := by
  refine Att.attach_callB hn hdf ?_
  intro w s0 s1 mg mb fa o pm cd doc a vs ns G Y ho hd hcd hmg hobj hints hlen hbits hg
  obtain ⟨fd, hb, hF⟩ := F w mg fa _ (hY w _ Y) G.T.g hmg
  exact lawG (hK w.params) (hY w _ Y) G.T.g G.T.b G.T.builtins G.T.nolimit hg hobj hints (Nat.le_trans hlen (by decide)) hr hF hb fun H hR => hsp H a ns hlen hbits hR
end DL

namespace DL
open PySem L2 RZ
/-! ## 14. A def keeps its contract -/
@[reducible] def Ag.sl (m : Addr) : Ag → Sl
  | .d x => .d x
  | .o xs => .o (some m) xs
def repUn : Nat → DSt
  | 0 => []
  | n + 1 => .un :: repUn n
def dStart (n : Nat) (as : List Ag) (m : Addr) : DSt := as.map (Ag.sl m) ++ repUn (n - as.length)
def bix : List Ag → Option Nat
  | [] => none
  | .o _ :: _ => some 0
  | .d _ :: as => match bix as with
    | some i => some (i + 1)
    | none => none
def dRet (as : List Ag) (m : Addr) (Q' : Rs → List (List PyData) → Prop) (r : Rs) (δ : DSt) : Prop := match bix as with
  | none => Q' r []
  | some i => ∃ y, gs δ i = .o (some m) y ∧ Q' r [y]
def dEnds (as : List Ag) (m : Addr) (Q' : Rs → List (List PyData) → Prop) (R : RX) : DEnds := { nx := fun δ => dRet as m Q' (.d .none) δ, rt := dRet as m Q', ex := R }
theorem repUn_length : ∀ n, (repUn n).length = n
  | 0 => rfl
  | n + 1 => by rw [repUn, List.length_cons, repUn_length n]
theorem repUn_get : ∀ (n i : Nat) (y : Sl), (repUn n)[i]? = some y → y = .un
  | 0, _, _, e => by simp [repUn] at e
  | n + 1, 0, y, e => by simp [repUn] at e; exact e.symm
  | n + 1, i + 1, y, e => by simp only [repUn, List.getElem?_cons_succ] at e; exact repUn_get n i y e
section
variable {Z : List Addr} {H : Hp} {m : Addr}
theorem ag_dat : ∀ {as : List Ag} {vs : List V} {ms : List Addr} {i : Nat} {x : PyData}, AgRel Z H as vs ms → (as.map (Ag.sl m))[i]? = some (.d x) → ∃ v, vs[i]? = some v ∧ Dq (frz Z H) v x
  | [], _, _, _, _, _, e => by simp at e
  | .d y :: as, [], _, _, _, h, _ => by simp [AgRel] at h
  | .d y :: as, v :: vs, ms, 0, x, h, e => by
    simp only [AgRel] at h
    simp [Ag.sl] at e; subst e
    exact ⟨v, rfl, h.1⟩
  | .d y :: as, v :: vs, ms, i + 1, x, h, e => by
    simp only [AgRel] at h
    obtain ⟨w, h1, h2⟩ := ag_dat (i := i) (x := x) h.2 (by simpa using e)
    exact ⟨w, by simpa using h1, h2⟩
  | .o y :: as, [], _, _, _, h, _ => by simp [AgRel] at h
  | .o y :: as, v :: vs, [], _, _, h, _ => by simp [AgRel] at h
  | .o y :: as, v :: vs, m' :: ms, 0, x, h, e => by simp [Ag.sl] at e
  | .o y :: as, v :: vs, m' :: ms, i + 1, x, h, e => by
    simp only [AgRel] at h
    obtain ⟨w, h1, h2⟩ := ag_dat (i := i) (x := x) h.2.2 (by simpa using e)
    exact ⟨w, by simpa using h1, h2⟩
theorem ag_none : ∀ {as : List Ag} {vs : List V} {i : Nat} {n : Option Addr} {xs : List PyData}, AgRel Z H as vs [] → (as.map (Ag.sl m))[i]? ≠ some (.o n xs)
  | [], _, _, _, _, _ => by simp
  | .d y :: as, [], _, _, _, h => by simp [AgRel] at h
  | .d y :: as, v :: vs, 0, _, _, h => by simp [Ag.sl]
  | .d y :: as, v :: vs, i + 1, n, xs, h => by
    simp only [AgRel] at h
    have := ag_none (i := i) (n := n) (xs := xs) h.2
    simpa using this
  | .o y :: as, [], _, _, _, h => by simp [AgRel] at h
  | .o y :: as, v :: vs, _, _, _, h => by simp [AgRel] at h
theorem bix_none : ∀ {as : List Ag} {vs : List V}, AgRel Z H as vs [] → bix as = none
  | [], _, _ => rfl
  | .d y :: as, [], h => by simp [AgRel] at h
  | .d y :: as, v :: vs, h => by simp only [AgRel] at h; rw [bix, bix_none h.2]
  | .o y :: as, [], h => by simp [AgRel] at h
  | .o y :: as, v :: vs, h => by simp [AgRel] at h
theorem ag_one : ∀ {as : List Ag} {vs : List V}, AgRel Z H as vs [m] → ∃ i xs ws, bix as = some i ∧ vs[i]? = some (.ref m) ∧ H m = some (.lst ws) ∧ DqAll (frz Z H) ws xs ∧ ∀ (j : Nat) (n : Option Addr) (ys : List PyData), (as.map (Ag.sl m))[j]? = some (.o n ys) → j = i ∧ n = some m ∧ ys = xs
  | [], [], h => by simp [AgRel] at h
  | [], _ :: _, h => by simp [AgRel] at h
  | .d y :: as, [], h => by simp [AgRel] at h
  | .d y :: as, v :: vs, h => by
    simp only [AgRel] at h
    obtain ⟨i, xs, ws, h1, h2, h3, h4, h5⟩ := ag_one h.2
    refine ⟨i + 1, xs, ws, by rw [bix, h1], by simpa using h2, h3, h4, fun j n ys e => ?_⟩
    cases j with
    | zero => simp [Ag.sl] at e
    | succ j =>
      obtain ⟨q1, q2⟩ := h5 j n ys (by simpa using e)
      exact ⟨by omega, q2⟩
  | .o y :: as, [], h => by simp [AgRel] at h
  | .o y :: as, v :: vs, h => by
    simp only [AgRel] at h
    obtain ⟨rfl, ⟨ws, h1, h2⟩, h3⟩ := h
    refine ⟨0, y, ws, rfl, rfl, h1, h2, fun j n ys e => ?_⟩
    cases j with
    | zero => simp [Ag.sl] at e; exact ⟨rfl, e.1.symm, e.2.symm⟩
    | succ j => exact (ag_none h3 (by simpa using e)).elim
end
theorem start_get {N : List Str} {vs : List V} {i : Nat} {v : V} (h : vs[i]? = some v) : (L2.start N vs)[i]? = some (some v) := by
  unfold L2.start
  have hi : i < vs.length := (List.getElem?_eq_some_iff.mp h).1
  rw [List.getElem?_append_left (by simpa using hi), List.getElem?_map, h]
  rfl
theorem dStart_get {n : Nat} {as : List Ag} {m : Addr} {i : Nat} {y : Sl} (h : (dStart n as m)[i]? = some y) (hy : y ≠ .un) : (as.map (Ag.sl m))[i]? = some y := by
  unfold dStart at h
  by_cases hi : i < (as.map (Ag.sl m)).length
  · rwa [List.getElem?_append_left hi] at h
  · rw [List.getElem?_append_right (by omega)] at h
    exact (hy (repUn_get _ _ _ h)).elim
theorem start_rel {N : List Str} {as : List Ag} {vs : List V} {ms P : List Addr} {H : Hp} (ha : AgRel (ms ++ P) H as vs ms) (h1 : ms.length ≤ 1) (hN : as.length ≤ N.length) (trk : ∀ a, a ∈ ms ++ P → H a ≠ none) (dis : ∀ a ∈ ms, a ∉ P) : Rel (dStart N.length as (ms.headD 0)) (L2.start N vs) ms P H := by
  have hl := ha.len
  have one : ∀ (j : Nat) (n : Option Addr) (ys : List PyData), (dStart N.length as (ms.headD 0))[j]? = some (.o n ys) → ∃ m i ws, ms = [m] ∧ j = i ∧ bix as = some i ∧ vs[i]? = some (.ref m) ∧ n = some m ∧ H m = some (.lst ws) ∧ DqAll (frz (ms ++ P) H) ws ys := fun j n ys e => by
    have e' := dStart_get e (fun z => nomatch z)
    match ms, h1, ha, e' with
    | [], _, ha, e' => exact (ag_none ha e').elim
    | [m], _, ha, e' =>
      obtain ⟨i, xs, ws, q1, q2, q3, q4, q5⟩ := ag_one (m := m) ha
      obtain ⟨r1, r2, r3⟩ := q5 j n ys e'
      subst r3
      exact ⟨m, i, ws, rfl, r1, q1, q2, r2, q3, q4⟩
    | _ :: _ :: _, h1, _, _ => simp at h1
  refine ⟨?_, fun i x e => ?_, fun i n xs e => ?_, fun i j n n' xs ys a ei ej si sj => ?_, trk, dis⟩
  · unfold L2.start dStart
    rw [List.length_append, List.length_append, List.length_map, List.length_map, List.length_replicate, repUn_length, hl]
  · obtain ⟨v, h1, h2⟩ := ag_dat ha (dStart_get e (fun z => nomatch z))
    exact ⟨v, start_get h1, h2⟩
  · obtain ⟨m, i', ws, rfl, rfl, q1, q2, rfl, q4, q5⟩ := one i n xs e
    exact ⟨m, ws, start_get q2, fun b e => (Option.some.inj e).symm, by simp, q4, q5⟩
  · obtain ⟨m, i', ws, e1, rfl, q1, _⟩ := one i n xs ei
    obtain ⟨m', j', ws', e2, rfl, q1', _⟩ := one j n' ys ej
    rw [q1] at q1'; exact Option.some.inj q1'
theorem ret_of {as : List Ag} {vs : List V} {ms P O' : List Addr} {H H' : Hp} {r : Rs} {v : V} {δ' : DSt} {σ' : L2.St} {Q' : Rs → List (List PyData) → Prop} (ha : AgRel (ms ++ P) H as vs ms) (h1 : ms.length ≤ 1) (dis : ∀ a ∈ ms, a ∉ P) (g : Got r v δ' σ' O' P H') (s : Stp ms H O' H') (h : dRet as (ms.headD 0) Q' r δ') :
    ∃ ys, Ret r v ys ms P H H' ∧ Stp ms H ms H' ∧ Q' r ys := by
  have s' : Stp ms H ms H' := ⟨fun a o h n => ⟨(s.keep a o h n).1, n⟩, s.there⟩
  have R' := g.rel
  have leD : ∀ (A B : List Addr), (∀ a ∈ A, a ∈ B) → Le (frz (B ++ P) H') (frz (A ++ P) H') := fun A B hab a o h => by
    obtain ⟨n, h⟩ := frz_some.mp h
    refine frz_some.mpr ⟨fun m => n ?_, h⟩
    rcases List.mem_append.mp m with m | m
    · exact List.mem_append_left _ (hab a m)
    · exact List.mem_append_right _ m
  match ms, h1, ha, dis, s, s', h with
  | [], _, ha, dis, s, s', h =>
    unfold dRet at h
    rw [bix_none ha] at h
    refine ⟨[], ?_, s', h⟩
    cases r with
    | d x => exact ⟨dp_le (leD [] O' (fun _ z => by cases z)) _ _ g.2, .nil⟩
    | f xs =>
      obtain ⟨p, ws, O1, rfl, rfl, n1, n2, R1, R, hp, da⟩ := g
      refine ⟨p, ws, rfl, by simp, n2, ?_, hp, dpa_le (leD [p] (p :: O1) (fun a z => by simp only [List.mem_singleton] at z; rw [z]; exact List.mem_cons_self)) _ _ da, .nil⟩
      cases hH : H p with
      | none => rfl
      | some o => exact ((s.keep p o hH (by simp)).2 List.mem_cons_self).elim
    | p xs zs =>
      obtain ⟨t, p, q, vs, ws, O1, rfl, rfl, pq, n1, n2, m1, m2, R1, R, hp, hq, d1, d2, dt⟩ := g
      have l := leD [p, q] (p :: q :: O1) (fun a z => by
        simp only [List.mem_cons, List.not_mem_nil, or_false] at z
        rcases z with z | z
        · rw [z]; exact List.mem_cons_self
        · rw [z]; exact List.mem_cons_of_mem _ List.mem_cons_self)
      have new : ∀ a ∈ p :: q :: O1, H a = none := fun a ha => by
        cases hH : H a with
        | none => rfl
        | some o => exact ((s.keep a o hH (by simp)).2 ha).elim
      exact ⟨t, p, q, vs, ws, rfl, pq, by simp, by simp, m1, m2, new p List.mem_cons_self, new q (List.mem_cons_of_mem _ List.mem_cons_self), hp, hq, dpa_le l _ _ d1, dpa_le l _ _ d2, rd_le l dt, .nil⟩
  | [m], _, ha, dis, s, s', h =>
    obtain ⟨i, xs, ws, q1, q2, q3, q4, q5⟩ := ag_one (m := m) ha
    unfold dRet at h
    rw [q1] at h
    obtain ⟨y, e, hq⟩ := h
    have e0 : gs δ' i = .o (some m) y := e
    obtain ⟨a, us, g1, g2, g3, g4, g5⟩ := R'.own i _ _ (gs_o e0)
    have ea : m = a := g2 m rfl
    subst ea
    refine ⟨[y], ?_, s', hq⟩
    cases r with
    | d x =>
      have l := leD [m] O' (fun b z => by simp only [List.mem_singleton] at z; rw [z]; exact g3)
      exact ⟨dp_le l _ _ g.2, .cons ⟨us, g4, dpa_le l _ _ g5⟩ .nil⟩
    | f xs =>
      obtain ⟨p, ws, O1, rfl, rfl, n1, n2, R1, R, hp, da⟩ := g
      obtain ⟨a', us', k1, k2, k3, k4, k5⟩ := R1.own i _ _ (gs_o e0)
      have ea' : m = a' := k2 m rfl
      subst ea'
      have npm : p ≠ m := fun z => n1 (by rw [z]; exact k3)
      have l := leD [p, m] (p :: O1) (fun b z => by
        simp only [List.mem_cons, List.not_mem_nil, or_false] at z
        rcases z with z | z
        · rw [z]; exact List.mem_cons_self
        · rw [z]; exact List.mem_cons_of_mem _ k3)
      refine ⟨p, ws, rfl, by simpa using npm, n2, ?_, hp, dpa_le l _ _ da, .cons ⟨us, g4, dpa_le l _ _ g5⟩ .nil⟩
      cases hH : H p with
      | none => rfl
      | some o => exact ((s.keep p o hH (by simpa using npm)).2 List.mem_cons_self).elim
    | p xs zs =>
      obtain ⟨t, p, q, vs, ws, O1, rfl, rfl, pq, n1, n2, m1, m2, R1, R, hp, hq, d1, d2, dt⟩ := g
      obtain ⟨a', us', k1, k2, k3, k4, k5⟩ := R1.own i _ _ (gs_o e0)
      have ea' : m = a' := k2 m rfl
      subst ea'
      have npm : p ≠ m := fun z => n1 (by rw [z]; exact k3)
      have nqm : q ≠ m := fun z => n2 (by rw [z]; exact k3)
      have l := leD [p, q, m] (p :: q :: O1) (fun b z => by
        simp only [List.mem_cons, List.not_mem_nil, or_false] at z
        rcases z with z | z | z
        · rw [z]; exact List.mem_cons_self
        · rw [z]; exact List.mem_cons_of_mem _ List.mem_cons_self
        · rw [z]; exact List.mem_cons_of_mem _ (List.mem_cons_of_mem _ k3))
      have new : ∀ a ∈ p :: q :: O1, a ≠ m → H a = none := fun a ha na => by
        cases hH : H a with
        | none => rfl
        | some o => exact ((s.keep a o hH (by simpa using na)).2 ha).elim
      exact ⟨t, p, q, vs, ws, rfl, pq, by simpa using npm, by simpa using nqm, m1, m2, new p List.mem_cons_self npm, new q (List.mem_cons_of_mem _ List.mem_cons_self) nqm, hp, hq, dpa_le l _ _ d1, dpa_le l _ _ d2, rd_le l dt, .cons ⟨us, g4, dpa_le l _ _ g5⟩ .nil⟩
  | _ :: _ :: _, h1, _, _, _, _, _ => simp at h1
section
variable {P : Program} {w : World} {K : PySem.W.Frag} {mg : Str → Option Value} {base : Heap} {x qual : Str} {st : Stmt} {f : Addr} {fd : FuncData} {N ps : List Str} {k n : Nat} {S : DSp}
/-- a def that lets no error out -/
theorem fn_data (F : Fun K x qual st f fd) (Sc : FnScope N ps (defScope st)) (hn : ps.length = n) (hN : n ≤ N.length)
    (hbody : ∀ (cdv : Value) (A : Around) (outer : List Env) (s : Shared) (H : Hp) (E : XK), RoomG k (A.deeper (PyProof.Rows.envOfC qual (defScope st) s.heap.objs.size f cdv)) →
      ∃ t, DSs (cxOf CX0 P w K mg base N qual (defScope st) f cdv A outer s H E).nox E0s (defBody st) t ∧ ∀ (as : List Ag) (m : Addr) (R : RXc) (Q' : Rs → List (List PyData) → Prop), as.length = n → S as R Q' → t (dEnds as m Q' noR) (dStart N.length as m)) :
    FnG P w K mg base CX0 (k + 1) f fd ps (spOf n S) := by
  refine okG F Sc (fun vs H Q E h => by rw [h.len, hn]) (fun cdv A outer s H vs Q E hr h => ?_)
  obtain ⟨as, ms, Pp, Q', R, h1, h2, h3, trk, dis, hS, kret, _⟩ := h
  obtain ⟨t, ⟨ts, p, q⟩, hb⟩ := hbody cdv A outer s H E hr
  refine ⟨ts, p.nox, q _ _ ms Pp H _ _ (start_rel h3 h2 (by omega) trk dis) ⟨fun δ' σ' O' H' R1 s1 z => ?_, fun r v δ' σ' O' H' g s1 z => ?_, fun _ _ _ _ _ _ z => False.elim z, fun _ _ _ _ _ _ z => False.elim z, .no⟩ (hb as (ms.headD 0) R Q' h1 hS)⟩
  · obtain ⟨ys, r1, r2, r3⟩ := ret_of (r := .d .none) (v := .non) h3 h2 dis (.dat R1 .non) s1 z
    exact kret _ _ ys H' r1 r2 r3
  · obtain ⟨ys, r1, r2, r3⟩ := ret_of h3 h2 dis g s1 z
    exact kret _ _ ys H' r1 r2 r3
/-- a def that may let errors out; it changes no list of its caller's -/
theorem fn_dataX (F : Fun K x qual st f fd) (Sc : FnScope N ps (defScope st)) (hn : ps.length = n) (hN : n ≤ N.length) (hb0 : ∀ as R Q', S as R Q' → bix as = none)
    (hbody : ∀ (cdv : Value) (A : Around) (outer : List Env) (s : Shared) (H : Hp) (E : XK), RoomG k (A.deeper (PyProof.Rows.envOfC qual (defScope st) s.heap.objs.size f cdv)) →
      ∃ t, DSs (cxOf (L2.CX P w) P w K mg base N qual (defScope st) f cdv A outer s H E) (fun _ => E) (defBody st) t ∧ ∀ (as : List Ag) (m : Addr) (R : RXc) (Q' : Rs → List (List PyData) → Prop), as.length = n → S as R Q' → t (dEnds as m Q' fun C xs _ => R C xs) (dStart N.length as m)) :
    FnG P w K mg base (L2.CX P w) (k + 1) f fd ps (spOf n S) := by
  refine okG F Sc (fun vs H Q E h => by rw [h.len, hn]) (fun cdv A outer s H vs Q E hr h => ?_)
  obtain ⟨as, ms, Pp, Q', R, h1, h2, h3, trk, dis, hS, kret, kex⟩ := h
  obtain ⟨t, ⟨ts, p, q⟩, hb⟩ := hbody cdv A outer s H E hr
  refine ⟨ts, p, q _ _ ms Pp H _ _ (start_rel h3 h2 (by omega) trk dis) ⟨fun δ' σ' O' H' R1 s1 z => ?_, fun r v δ' σ' O' H' g s1 z => ?_, fun _ _ _ _ _ _ z => False.elim z, fun _ _ _ _ _ _ z => False.elim z, fun C dd xs δ' σ' O' H' R1 s1 ex r => ?_⟩ (hb as (ms.headD 0) R Q' h1 hS)⟩
  · obtain ⟨ys, r1, r2, r3⟩ := ret_of (r := .d .none) (v := .non) h3 h2 dis (.dat R1 .non) s1 z
    exact kret _ _ ys H' r1 r2 r3
  · obtain ⟨ys, r1, r2, r3⟩ := ret_of h3 h2 dis g s1 z
    exact kret _ _ ys H' r1 r2 r3
  · have e0 : ms = [] := by
      match ms, h2, h3 with
      | [], _, _ => rfl
      | [m], _, h3 =>
        obtain ⟨i, _, _, q1, _⟩ := ag_one (m := m) h3
        rw [hb0 as R Q' hS] at q1; cases q1
      | _ :: _ :: _, h2, _ => simp at h2
    subst e0
    refine kex C dd xs H' ⟨fun a o h n => ⟨(s1.keep a o h n).1, n⟩, s1.there⟩ ?_ r
    rcases ex with ex | ⟨d, fs, e1, e2, e3⟩
    · exact .inl ex
    · refine .inr ⟨d, fs, e1, e2, Paired.mapP e3 fun a b z => ⟨z.1, dp_le (fun c o hc => ?_) _ _ z.2⟩⟩
      obtain ⟨n, hc⟩ := frz_some.mp hc
      exact frz_some.mpr ⟨fun m => n (List.mem_append_right _ (by simpa using m)), hc⟩
end
theorem passE0 {X : Cx} : ∀ σ, PassesAt CX0 X σ (E0s σ) := fun _ _ _ _ _ _ _ h => h.elim
end DL

namespace DL
open PySem L2 RZ
/-! ## 15. Names of operations -/
theorem hu64 {k : Nat} {A : Around} (hr : RoomG k A) : A.units + 64 < cLine := by have := hr.un; omega
theorem hu65 {k : Nat} {A : Around} (hr : RoomG k A) : A.units + 65 < cLine := by have := hr.un; omega
def subD : K2 := fun x y k => match x, y with
  | .int i, .int j => k (.d (.int (i - j)))
  | _, _ => False
def modD : K2 := fun x y k => match x, y with
  | .int i, .int j => 0 < j ∧ k (.d (.int (i % j)))
  | _, _ => False
def fdivD : K2 := fun x y k => match x, y with
  | .int i, .int j => CDivW i j ∧ k (.d (.int (i / j)))
  | _, _ => False
def powD : K2 := fun x y k => match x, y with
  | .int i, .int j => CPow i j ∧ k (.d (.int (i ^ j.toNat)))
  | _, _ => False
def ltD : K2 := fun x y k => match x, y with
  | .int i, .int j => k (.d (.bool (decide (i < j))))
  | _, _ => False
def leD : K2 := fun x y k => match x, y with
  | .int i, .int j => k (.d (.bool (decide (i ≤ j))))
  | _, _ => False
def gtD : K2 := fun x y k => match x, y with
  | .int i, .int j => k (.d (.bool (decide (j < i))))
  | _, _ => False
def geD : K2 := fun x y k => match x, y with
  | .int i, .int j => k (.d (.bool (decide (j ≤ i))))
  | _, _ => False
def iaddD : K2 := fun x y k => match x, y with
  | .int i, .int j => k (.d (.int (i + j)))
  | _, _ => False
theorem opd_sub' : OpD (rI0 fun i j => .int (i - j)) subD := opd_sub
theorem opd_mod' : OpD (rI (fun _ j => 0 < j) fun i j => .int (i % j)) modD := opd_mod
theorem opd_fdivW' : OpD (rI CDivW fun i j => .int (i / j)) fdivD := opd_fdivW
theorem opd_pow' : OpD (rI CPow fun i j => .int (i ^ j.toNat)) powD := opd_pow
theorem opd_lt' : OpD (rI0 fun i j => .bl (decide (i < j))) ltD := opd_lt
theorem opd_le' : OpD (rI0 fun i j => .bl (decide (i ≤ j))) leD := opd_le
theorem opd_gt' : OpD (rI0 fun i j => .bl (decide (j < i))) gtD := opd_gt
theorem opd_ge' : OpD (rI0 fun i j => .bl (decide (j ≤ i))) geD := opd_ge
theorem opd_iadd : OpD (rI0 fun i j => .int (i + j)) iaddD := opd_rI0 (g := fun i j => .int (i + j)) fun _ _ _ => .int _
/-! ### a product; a list or tuple again and again -/
def repL : Nat → List PyData → List PyData
  | 0, _ => []
  | n + 1, xs => xs ++ repL n xs
theorem repL_eq {α : Type} (n : Nat) (xs : List α) : (List.replicate (n + 1) xs).flatten = xs ++ (List.replicate n xs).flatten := by rw [List.replicate_succ, List.flatten_cons]
theorem dpa_rep {H : Hp} {vs : List V} {xs : List PyData} (h : DqAll H vs xs) : ∀ n : Nat, DqAll H (List.replicate n vs).flatten (repL n xs)
  | 0 => .nil
  | n + 1 => by rw [repL_eq, repL]; exact dpa_append h (dpa_rep h n)
def rRepR : R2 := fun x y H Q => ∃ l k xs, x = .ref l ∧ y = .int k ∧ Rd H l (.lst xs) ∧ -(2 ^ 63) ≤ k ∧ k < 2 ^ 63 ∧ xs.length * k.toNat ≤ sizeLine ∧
  ∀ p, H p = none → Q (.ref p) (upd H p (.lst (List.replicate k.toNat xs).flatten))
theorem op_repR {X : Cx} : OpR X (binaryOp .Mult) rRepR := by
  intro pins s σ H x y v u Q I rx ry h
  obtain ⟨l, k, xs, rfl, rfl, hH, h1, h2, hz, q⟩ := h
  cases rx
  obtain ⟨t, rfl⟩ := ry
  obtain ⟨z, its, n, r, hl, e⟩ := lstR I hH
  have hlen : its.toArray.size * k.toNat ≤ sizeLine := by rw [List.size_toArray, ← hl]; exact hz
  have hcap : ¬ its.toArray.size * k.toNat > (2 ^ 63 - 1) / 8 := by
    have : (sizeLine : Nat) ≤ (2 ^ 63 - 1) / 8 := by decide
    omega
  have hfit : ¬ (!Builtin.List.listFitsIndex k) = true := by rw [fitsIndex_both h1 h2]; exact Bool.false_ne_true
  have hlong : ¬ Builtin.List.listTooLong (its.toArray.size * k.toNat) = true := by rw [notLongL hlen]; exact Bool.false_ne_true
  have hnew : List.foldl (fun x1 x2 => x1 ++ x2) #[] (List.replicate (if its.toArray.isEmpty = true then 0 else k.toNat) its.toArray) = (List.replicate k.toNat its).flatten.toArray := by
    have f0 : ∀ m : Nat, List.foldl (fun x1 x2 => x1 ++ x2) #[] (List.replicate m its.toArray) = (List.replicate m its).flatten.toArray := fun m => size_rep its m
    rw [f0]
    cases its with
    | nil => simp
    | cons a r' => rw [if_neg (by simp)]
  refine wpAny_binaryOp_repeat_ref (T := "list") (U := "int") (by decide) ⟨_, e, rfl⟩ (fun s' => typeIs_int s' k t) noFill_list_mul F.fills_int_mul F.slot_int_rmul repeat_list F.slot_int_index.lookup
    (call_meets F.slot_int_rmul (typeIs_int s k t) F.entry_int_rmul (F.args_int_rmul_2 _ _) (int___rmul___int_list k t l its.toArray n)
      ⟨e, rfl, ⟨_, e, rfl⟩, call_meets F.slot_list_mul ⟨_, e, rfl⟩ F.entry_list_mul (F.args_list_mul_2 _ _) (AutoListH.list___mul___list_int_3 l its.toArray n k t hfit hcap hlong) ⟨e, ?_⟩⟩)
  rw [hnew]
  exact ⟨.ref _, _, I.lnew (t' := s.toks) (r.rep k.toNat) (by rw [PyProof.Rows.lm_len_rep_flat, Nat.mul_comm]; exact hz), rfl, q _ I.fresh⟩
/-- a tuple once is itself -/
theorem tuple_mul1 (l : Addr) (items : Array Value) (n : Nat) (dd : Option Addr) (sl : Array (Option Value)) (u : Tok) :
    Meets (Builtin.«tuple.__mul__» ⟨[.ref l, .int 1 u], []⟩) (fun _ R s => s.heap.get? l = some { cls := .type "tuple", dict := dd, data := .seq items n, slots := sl } ∧ R (.ok (.ret (Value.ref l))) s) :=
  .of_wp fun prog w A R s h => by
    obtain ⟨hp, g, d, tk, os⟩ := s
    obtain ⟨hl, h⟩ := h
    have f1 := AutoSeq1.idx_int
    wp_walk using wpAny_loadPart' hl
    exact ⟨_, rfl, h⟩
def rRepT1 (K : PySem.W.Frag) : R2 := fun x y H Q => ∃ l xs, x = .ref l ∧ y = .int 1 ∧ SqT K H l xs ∧ Q (.ref l) H
theorem op_repT1 {X : Cx} : OpR X (binaryOp .Mult) (rRepT1 X.K) := by
  intro pins s σ H x y v u Q I rx ry h
  obtain ⟨l, xs, rfl, rfl, hT, q⟩ := h
  cases rx
  obtain ⟨t, rfl⟩ := ry
  obtain ⟨its, r, ⟨⟨cls, dd, data, sl⟩, ho, hc, n, hd⟩, hs⟩ := I.tuple hT
  simp only at hc hd
  subst hc hd
  exact wpAny_binaryOp_repeat_ref (T := "tuple") (U := "int") (by decide) ⟨_, ho, rfl⟩ (fun s' => typeIs_int s' 1 t) noFill_tuple_mul F.fills_int_mul F.slot_int_rmul repeat_tuple F.slot_int_index.lookup
    (call_meets F.slot_int_rmul (typeIs_int s 1 t) F.entry_int_rmul (F.args_int_rmul_2 _ _) (int_rmul_tuple 1 t l its.toArray n dd sl)
      ⟨ho, rfl, ⟨_, ho, rfl⟩, call_meets F.slot_tuple_mul ⟨_, ho, rfl⟩ F.entry_tuple_mul (F.args_tuple_mul_2 _ _) (tuple_mul1 l its.toArray n dd sl t) ⟨ho, ⟨.ref l, H, I, rfl, q⟩⟩⟩)
def rMulU (K : PySem.W.Frag) : R2 := fun x y H Q => rI CMulX (fun i j => .int (i * j)) x y H Q ∨ rRepR x y H Q ∨ rRepT K x y H Q ∨ rRepT1 K x y H Q
theorem op_mulU {X : Cx} : OpR X (binaryOp .Mult) (rMulU X.K) := op_mulX.or (op_repR.or (op_repT.or op_repT1))
def mulD : K2 := fun x y k => match x, y with
  | .int i, .int j => CMulX i j ∧ k (.d (.int (i * j)))
  | .list xs, .int n => 0 ≤ n ∧ n ≤ 100000 ∧ xs.length ≤ 100 ∧ k (.f (repL n.toNat xs))
  | .tuple xs, .int n => 1 ≤ n ∧ n ≤ 1000 ∧ xs ≠ [] ∧ xs.length ≤ 1000 ∧ k (.d (.tuple (repL n.toNat xs)))
  | _, _ => False
theorem opd_mulU {K : PySem.W.Frag} : OpD (rMulU K) mulD := fun x y u v δ σ O P H Q' Q I a b q k => by
  unfold mulD at q
  split at q
  · cases a.int; cases b.int
    exact .inl ⟨_, _, rfl, rfl, q.1, k _ _ O H (.dat I (.int _)) .refl q.2⟩
  · rename_i xs n
    cases b.int
    obtain ⟨l, vs, rfl, h1, h2⟩ := a.lst
    obtain ⟨n0, n1, n2, q⟩ := q
    have hz : vs.length * n.toNat ≤ sizeLine := by
      rw [dpa_len h2]
      have : xs.length * n.toNat ≤ 100 * 100000 := Nat.mul_le_mul n2 (by omega)
      have h3 : (sizeLine : Nat) = 16777216 := by decide
      omega
    exact .inr (.inl ⟨l, n, vs, rfl, rfl, h1, by omega, by omega, hz, fun p np => k _ _ (p :: O) _ (.newl I np (dpa_rep h2 _)) (.newo np) q⟩)
  · rename_i xs n
    cases b.int
    obtain ⟨l, vs, rfl, h1, h2, d⟩ := a.tup
    obtain ⟨n0, n1, n2, n3, q⟩ := q
    by_cases e : n = 1
    · subst e
      have e1 : repL (Int.toNat 1) xs = xs := by show xs ++ [] = xs; rw [List.append_nil]
      rw [e1] at q
      exact .inr (.inr (.inr ⟨l, vs, rfl, rfl, .inl h1, k _ _ O H (.dat I d) .refl q⟩))
    · refine .inr (.inr (.inl ⟨l, n, vs, rfl, rfl, .inl h1, fun z => n2 ?_, by omega, n1, by rw [dpa_len h2]; exact n3, fun p np => k _ _ O _ (.newt I np (dpa_rep h2 _)) (.newd np) q⟩))
      subst z; cases h2; rfl
  · exact q.elim
/-! ### xs[::-1], of a list -/
def revD : K1 := fun x k => match x with
  | .list xs => k (.f xs.reverse)
  | _ => False
theorem de_rev {X : Cx} {E : XS} {e : Expr} {oa : TO'} {kk : Nat} {p1 p2 p3 pos : Pos} (ha : DA X E e oa) : DE X E (.Subscript e (.Slice none none (some (.UnaryOp .USub (.Constant (.int 1) kk p1) p2)) p3) pos) (dUn revD oa) := by
  obtain ⟨t, p, q⟩ := ha.ex
  refine ⟨_, pe_revL p, fun δ σ O P H R Q' Q I w h k => ?_⟩
  refine q δ σ O P H R _ _ I w h fun o v δ1 O1 H1 R1 a1 s1 h1 => ?_
  split at h1
  · rename_i x e1
    unfold revD at h1
    split at h1
    · obtain ⟨b, vs, rfl, hr, hd⟩ := (a1.lq R1 e1).lst
      exact ⟨b, vs, rfl, .inl hr, fun p np => k _ _ δ1 (p :: O1) _ (.newl R1 np (dpa_rev hd)) (s1.trans (.newo np)) h1⟩
    · exact h1.elim
  · exact h1.elim
/-! ### a statement that is not reached -/
def sNever : TSd := fun _ _ => False
theorem ds_never {X : Cx} {E : XS} {st : Stmt} : DS X E st sNever := ⟨_, ps_never, fun _ _ _ _ _ _ _ _ _ h => h.elim⟩
/-! ## 16. Calls of own defs, by what is known of them -/
def BndOk (x : Str) (st : Stmt) (ps : List Str) : Prop := ∀ (kV doc pm : Value) (an : Option Addr) (cdv ct : Value) (us : List Value), us.length = ps.length → bindArgs (PySem.W.fnOf x x (defArgs st) (defBody st) (defScope st) .none kV doc pm an cdv ct) ⟨us, []⟩ = pure (ps.zip us)
/-- the def x stands in the program's top; it keeps S, at level k -/
structure Cal (P : Program) (w : World) (K : PySem.W.Frag) (mg : Str → Option Value) (base : Heap) (CX : CXT) (k : Nat) (x : Str) (st : Stmt) (ps : List Str) (n : Nat) (S : DSp) : Prop where
  ex : ∃ f fd, Fun K x x st f fd ∧ mg x = some (.ref f) ∧ FnG P w K mg base CX k f fd ps (spOf n S)
  bnd : BndOk x st ps
theorem Cal.mono {P : Program} {w : World} {K : PySem.W.Frag} {mg : Str → Option Value} {base : Heap} {CX : CXT} {k k' : Nat} {x : Str} {st : Stmt} {ps : List Str} {n : Nat} {S : DSp} (G : Cal P w K mg base CX k x st ps n S) (h : k ≤ k') : Cal P w K mg base CX k' x st ps n S := by
  obtain ⟨⟨f, fd, F, m, ok⟩, b⟩ := G
  exact ⟨⟨f, fd, F, m, ok.len, fun A outer s H args us vs Q E hr e0 b v q => ok.run A outer s H args us vs Q E (hr.mono h) e0 b v q⟩, b⟩
section
variable {X : Cx} {E : XS} {e : Expr} {es : List Expr} {pos p : Pos} {ta tb : TAd} {CX : CXT} {k n : Nat} {ps : List Str} {S : DSp} {x : Str} {st : Stmt}
/-- a name's slot that holds a datum is that datum -/
def nrm : List Opd → DSt → List Opd
  | [], _ => []
  | .x y :: os, δ => .x y :: nrm os δ
  | .v i :: os, δ => (match gs δ i with
    | .d y => .x y
    | _ => .v i) :: nrm os δ
theorem AllAt.nrm {δ : DSt} {σ : L2.St} {O P : List Addr} {H : Hp} (R : Rel δ σ O P H) : ∀ {os : List Opd} {vs : List V}, AllAt os vs σ (O ++ P) H → AllAt (nrm os δ) vs σ (O ++ P) H
  | [], _, .nil => .nil
  | .x y :: os, _, .cons h hs => .cons h (AllAt.nrm R hs)
  | .v i :: os, _, .cons (b := v) h hs => by
    refine .cons ?_ (AllAt.nrm R hs)
    cases g : gs δ i with
    | un => exact h
    | o m xs => exact h
    | d y =>
      obtain ⟨u, h1, h2⟩ := R.dat i _ (gs_d g)
      have h' : σ[i]? = some (some v) := h
      rw [h1] at h'; cases h'
      exact h2
def dCallN (n : Nat) (S : DSp) (ta : TAd) : TD := fun δ R Q => ta δ R fun os δ1 => match agsOf (nrm os δ1) δ1 with
  | some as => as.length = n ∧ (vix (nrm os δ1)).length ≤ 1 ∧ S as (fun C xs => vix (nrm os δ1) = [] ∧ R C xs δ1) fun r ys => Q r (putB (vix (nrm os δ1)) ys δ1)
  | none => False
theorem de_callC (G : Cal X.prog X.w X.K X.mg X.base CX k x st ps n S) (hr : RoomG k X.A) (hg : Gl X x) (hx : ∀ σ, PassesAt CX X σ (E σ))
    (ha : DAs X E (e :: es) ta) (hdb : (x == ("__debug__" : Str)) = false := by decide) (he : starEach (e :: es) X.env = (false, eval e X.env) :: starEach es X.env := by rfl) (hpl : (backTo pos (starEach es X.env)).any (·.1) = false := by rfl) :
    DE X E (.Call (.Name x p) (e :: es) [] pos) (dCallN n S ta) := by
  obtain ⟨⟨f, fd, F, hm, ok⟩, bnd⟩ := G
  obtain ⟨t, pt, q⟩ := ha.ex
  refine ⟨_, pe_callG ok hr hg hm F.kp (F.binds fun kV doc pm an cdv ct us hl => bnd kV doc pm an cdv ct us hl) hx pt hdb he hpl, fun δ σ O P H R Q' Q I w h k => ?_⟩
  refine q δ σ O P H R _ _ I w h fun os vs δ1 O1 H1 R1 a1 s1 h1 => ?_
  split at h1
  · rename_i as eo
    exact call_sound R1 (w.step s1) (a1.nrm R1) eo h1.1 h1.2.1 h1.2.2 fun r v δ' O' H' g s q' => k r v δ' O' H' g (s1.trans s) q'
  · exact h1.elim
/-! ### calls by keywords alone -/
def permL {α : Type} : List Nat → List α → List α
  | [], _ => []
  | i :: is, ws => match ws[i]? with
    | some w => w :: permL is ws
    | none => permL is ws
theorem permL_vals {vs : List V} {us : List Value} (r : Vals vs us) : ∀ is : List Nat, Vals (permL is vs) (permL is us)
  | [] => .nil
  | i :: is => by
    unfold permL
    cases h : vs[i]? with
    | none => rw [r.none_of h]; exact permL_vals r is
    | some v =>
      obtain ⟨u, h1, h2⟩ := r.get h
      rw [h1]
      exact .cons h2 (permL_vals r is)
theorem permL_at {σ : L2.St} {Z : List Addr} {H : Hp} {os : List Opd} {vs : List V} (r : AllAt os vs σ Z H) : ∀ is : List Nat, AllAt (permL is os) (permL is vs) σ Z H
  | [] => .nil
  | i :: is => by
    have len : os.length = vs.length := Paired.length r
    have get : ∀ (os : List Opd) (vs : List V) (i : Nat) (o : Opd), AllAt os vs σ Z H → os[i]? = some o → ∃ v, vs[i]? = some v ∧ OpdAt o v σ Z H := fun os vs i o h => by
      induction h generalizing i with
      | nil => intro e; simp at e
      | cons a _ ih =>
        intro e
        cases i with
        | zero => simp at e; subst e; exact ⟨_, rfl, a⟩
        | succ i => obtain ⟨v, h1, h2⟩ := ih i (by simpa using e); exact ⟨v, by simpa using h1, h2⟩
    unfold permL
    cases h : os[i]? with
    | none =>
      have : vs[i]? = none := List.getElem?_eq_none (by rw [← len]; exact List.getElem?_eq_none_iff.mp h)
      rw [this]; exact permL_at r is
    | some o =>
      obtain ⟨v, h1, h2⟩ := get os vs i o r h
      rw [h1]
      exact .cons h2 (permL_at r is)
def KBndOk (x : Str) (st : Stmt) (ps ks : List Str) (is : List Nat) : Prop := ∀ (kV doc pm : Value) (an : Option Addr) (cdv ct : Value) (us : List Value), us.length = ps.length → bindArgs (PySem.W.fnOf x x (defArgs st) (defBody st) (defScope st) .none kV doc pm an cdv ct) ⟨[], ks.zip us⟩ = pure (ps.zip (permL is us))
structure DKs (X : Cx) (E : XS) (kws : List Keyword) (t : TAd) : Prop where
  ex : ∃ ta, PK X kws ta ∧ ∀ (δ : DSt) (σ : L2.St) (O P : List Addr) (H : Hp) (R : RX) (Q' : List Opd → DSt → Prop) (Q : List V → Hp → Prop), Rel δ σ O P H → ExW E O P H R → t δ R Q' →
    (∀ os vs δ' O' H', Rel δ' σ O' P H' → AllAt os vs σ (O' ++ P) H' → Stp O H O' H' → Q' os δ' → Q vs H') → ta σ H Q
theorem dkw_nil : DKs X E [] aNil := ⟨_, pk_nil, fun δ σ O P H R Q' Q I w h k => k [] [] δ O H I .nil .refl h⟩
theorem dkw_cons {oa : TO'} {ts : TAd} {kws : List Keyword} {nm : Option Str} {kpos : Pos} (ha : DA X E e oa) (hr : DKs X E kws ts) : DKs X E (⟨nm, e, kpos⟩ :: kws) (aCons oa ts) := by
  obtain ⟨t, p, q⟩ := ha.ex
  obtain ⟨t', p', q'⟩ := hr.ex
  refine ⟨_, pk_cons p p', fun δ σ O P H R Q' Q I w h k => ?_⟩
  refine q δ σ O P H R _ _ I w h fun o v δ1 O1 H1 R1 a1 s1 h1 => ?_
  refine q' δ1 σ O1 P H1 R _ _ R1 (w.step s1) h1 fun os vs δ2 O2 H2 R2 a2 s2 h2 => ?_
  exact k _ _ δ2 O2 H2 R2 (.cons (a1.step s2) a2) (s1.trans s2) h2
def dCallK (n : Nat) (S : DSp) (is : List Nat) (ta : TAd) : TD := fun δ R Q => ta δ R fun os δ1 => os.length = n ∧ match agsOf (nrm (permL is os) δ1) δ1 with
  | some as => as.length = n ∧ (vix (nrm (permL is os) δ1)).length ≤ 1 ∧ S as (fun C xs => vix (nrm (permL is os) δ1) = [] ∧ R C xs δ1) fun r ys => Q r (putB (vix (nrm (permL is os) δ1)) ys δ1)
  | none => False
theorem de_callK0 {ks : List Str} {kws : List Keyword} {is : List Nat} (G : Cal X.prog X.w X.K X.mg X.base CX k x st ps n S) (kb : KBndOk x st ps ks is) (hn : ps.length = n) (hr : RoomG k X.A) (hg : Gl X x) (hx : ∀ σ, PassesAt CX X σ (E σ)) (hkw : DKs X E kws ta)
    (hall : (backToKw pos (keywordEach kws X.env)).all (·.1.isSome) = true := by rfl) (hks : (backToKw pos (keywordEach kws X.env)).filterMap (·.1) = ks := by rfl)
    (hdb : (x == ("__debug__" : Str)) = false := by decide) (hpl : ((backTo pos (starEach [] X.env)).any (·.1) || (backToKw pos (keywordEach kws X.env)).any (·.1.isNone)) = false := by rfl) :
    DE X E (.Call (.Name x p) [] kws pos) (dCallK n S is ta) := by
  obtain ⟨⟨f, fd, F, hm, ok⟩, bnd⟩ := G
  obtain ⟨oc, od, kV, doc, pm, an, cdv, ct, osl, rfl, lk, hcd⟩ := F.ex
  obtain ⟨t, pt, q⟩ := hkw.ex
  refine ⟨_, pe_callKG (perm := fun {_} ws => permL is ws) ok hr hg hm F.kp (fun us hl => kb kV doc pm an cdv ct us hl) (fun vs us r => permL_vals r is) hx pt hall hks hdb hpl, fun δ σ O P H R Q' Q I w h k => ?_⟩
  refine q δ σ O P H R _ _ I w h fun os vs δ1 O1 H1 R1 a1 s1 h1 => ?_
  obtain ⟨hl, h1⟩ := h1
  refine ⟨by rw [hn, ← hl]; exact (Paired.length a1).symm, ?_⟩
  split at h1
  · rename_i as eo
    exact call_sound R1 (w.step s1) ((permL_at a1 is).nrm R1) eo h1.1 h1.2.1 h1.2.2 fun r v δ' O' H' g s q' => k r v δ' O' H' g (s1.trans s) q'
  · exact h1.elim
end
/-- a def that is never called so -/
theorem Cal.never {P : Program} {w : World} {K : PySem.W.Frag} {mg : Str → Option Value} {base : Heap} {CX : CXT} {k : Nat} {x : Str} {st : Stmt} {ps : List Str} {n : Nat} {f : Addr} {fd : FuncData} (F : Fun K x x st f fd) (hm : mg x = some (.ref f)) (b : BndOk x st ps) : Cal P w K mg base CX k x st ps n (fun _ _ _ => False) :=
  ⟨⟨f, fd, F, hm, fun vs H Q E h => by obtain ⟨_, _, _, _, _, _, _, _, _, _, h, _⟩ := h; exact h.elim, fun A outer s H args us vs Q E _ _ _ _ h => by obtain ⟨_, _, _, _, _, _, _, _, _, _, h, _⟩ := h; exact h.elim⟩, b⟩
end DL

namespace DL
open PySem L2
/-! ## 17. Readings run from the head: each way on by a name, each step an equation -/
/-- a bool decides -/
def asB (x : PyData) (Q : Bool → DSt → Prop) (δ : DSt) : Prop := match x with
  | .bool b => Q b δ
  | _ => False
theorem asB_b (b : Bool) (Q : Bool → DSt → Prop) (δ : DSt) : asB (.bool b) Q δ = Q b δ := rfl
def with1 (o : Option PyData) (k : PyData → Prop) : Prop := match o with
  | some x => k x
  | none => False
theorem with1_s (x : PyData) (k : PyData → Prop) : with1 (some x) k = k x := rfl
def with2 (o o' : Option PyData) (k : PyData → PyData → Prop) : Prop := match o, o' with
  | some x, some y => k x y
  | _, _ => False
theorem with2_s (x y : PyData) (k : PyData → PyData → Prop) : with2 (some x) (some y) k = k x y := rfl
def vVar (s : Sl) (i : Nat) (δ : DSt) (Q : Rs → DSt → Prop) : Prop := match s with
  | .un => False
  | .d x => Q (.d x) δ
  | .o _ xs => Q (.d (.list xs)) (ss δ i (.d (.list xs)))
def vaVar (s : Sl) (i : Nat) (δ : DSt) (Q : Opd → DSt → Prop) : Prop := s.val ≠ none ∧ Q (.v i) δ
def kZ (Q : Rs → DSt → Prop) (δ : DSt) : Rs → Prop := fun z => Q z δ
def kOf (Q : Opd → DSt → Prop) : Rs → DSt → Prop := fun r δ' => Q (.x r.val) δ'
def kOp3 (f : K2) (Q : Rs → DSt → Prop) (δ : DSt) : PyData → PyData → Prop := fun x y => f x y (kZ Q δ)
def kOp2 (f : K2) (a : Opd) (Q : Rs → DSt → Prop) : Opd → DSt → Prop := fun b δ2 => with2 (a.res δ2) (b.res δ2) (kOp3 f Q δ2)
def kOp1 (f : K2) (tb : TO') (R : RX) (Q : Rs → DSt → Prop) : Opd → DSt → Prop := fun a δ1 => tb δ1 R (kOp2 f a Q)
def kUn1 (f : K1) (Q : Rs → DSt → Prop) (δ : DSt) : PyData → Prop := fun x => f x (kZ Q δ)
def kUn (f : K1) (Q : Rs → DSt → Prop) : Opd → DSt → Prop := fun a δ1 => with1 (a.res δ1) (kUn1 f Q δ1)
def kTest (Q : Bool → DSt → Prop) : Rs → DSt → Prop := fun r δ' => asB r.val Q δ'
def kAnd (u : TTd) (R : RX) (Q : Bool → DSt → Prop) : Bool → DSt → Prop := fun c δ1 => if c = true then u δ1 R Q else Q false δ1
def kOr (u : TTd) (R : RX) (Q : Bool → DSt → Prop) : Bool → DSt → Prop := fun c δ1 => if c = true then Q true δ1 else u δ1 R Q
def kNot (Q : Bool → DSt → Prop) : Bool → DSt → Prop := fun c δ1 => Q (!c) δ1
def kAndV2 (tb : TD) (R : RX) (Q : Rs → DSt → Prop) : Bool → DSt → Prop := fun c δ1 => if c = true then tb δ1 R Q else Q (.d (.bool false)) δ1
def kAndV (tb : TD) (R : RX) (Q : Rs → DSt → Prop) : Rs → DSt → Prop := fun r δ1 => asB r.val (kAndV2 tb R Q) δ1
def kOrV2 (tb : TD) (R : RX) (Q : Rs → DSt → Prop) : Bool → DSt → Prop := fun c δ1 => if c = true then Q (.d (.bool true)) δ1 else tb δ1 R Q
def kOrV (tb : TD) (R : RX) (Q : Rs → DSt → Prop) : Rs → DSt → Prop := fun r δ1 => asB r.val (kOrV2 tb R Q) δ1
def kNotV2 (Q : Rs → DSt → Prop) : Bool → DSt → Prop := fun c δ1 => Q (.d (.bool (!c))) δ1
def kNotV (Q : Rs → DSt → Prop) : Rs → DSt → Prop := fun r δ1 => asB r.val (kNotV2 Q) δ1
def kIfE (ta tb : TD) (R : RX) (Q : Rs → DSt → Prop) : Bool → DSt → Prop := fun c δ1 => if c = true then ta δ1 R Q else tb δ1 R Q
def kCh6 (f' : K2) (Q : Rs → DSt → Prop) (δ : DSt) : PyData → PyData → Prop := fun y w => f' y w (kZ Q δ)
def kCh5 (f' : K2) (b : Opd) (Q : Rs → DSt → Prop) : Opd → DSt → Prop := fun c δ3 => with2 (b.res δ3) (c.res δ3) (kCh6 f' Q δ3)
def kCh4 (f' : K2) (b : Opd) (tc : TO') (R : RX) (Q : Rs → DSt → Prop) : Bool → DSt → Prop := fun c δ2 => if c = true then tc δ2 R (kCh5 f' b Q) else Q (.d (.bool false)) δ2
def kCh3 (f' : K2) (b : Opd) (tc : TO') (R : RX) (Q : Rs → DSt → Prop) (δ : DSt) : Rs → Prop := fun z => asB z.val (kCh4 f' b tc R Q) δ
def kCh2b (f f' : K2) (b : Opd) (tc : TO') (R : RX) (Q : Rs → DSt → Prop) (δ : DSt) : PyData → PyData → Prop := fun x y => f x y (kCh3 f' b tc R Q δ)
def kCh2 (f f' : K2) (a : Opd) (tc : TO') (R : RX) (Q : Rs → DSt → Prop) : Opd → DSt → Prop := fun b δ2 => with2 (a.res δ2) (b.res δ2) (kCh2b f f' b tc R Q δ2)
def kCh1 (f f' : K2) (tb tc : TO') (R : RX) (Q : Rs → DSt → Prop) : Opd → DSt → Prop := fun a δ1 => tb δ1 R (kCh2 f f' a tc R Q)
def kCons2 (r : Rs) (Q : List PyData → DSt → Prop) : List PyData → DSt → Prop := fun xs δ2 => Q (r.val :: xs) δ2
def kCons (ts : TDs) (R : RX) (Q : List PyData → DSt → Prop) : Rs → DSt → Prop := fun r δ1 => ts δ1 R (kCons2 r Q)
def kLst (Q : Rs → DSt → Prop) : List PyData → DSt → Prop := fun xs δ1 => xs.length ≤ 16777216 ∧ Q (.f xs) δ1
def kTup (Q : Rs → DSt → Prop) : List PyData → DSt → Prop := fun xs δ1 => xs.length ≤ 16777216 ∧ Q (.d (.tuple xs)) δ1
def krCons2 (r : Rs) (Q : List Rs → DSt → Prop) : List Rs → DSt → Prop := fun rs δ2 => Q (r :: rs) δ2
def krCons (ts : TRs) (R : RX) (Q : List Rs → DSt → Prop) : Rs → DSt → Prop := fun r δ1 => ts δ1 R (krCons2 r Q)
def kaCons2 (o : Opd) (Q : List Opd → DSt → Prop) : List Opd → DSt → Prop := fun os δ2 => Q (o :: os) δ2
def kaCons (ts : TAd) (R : RX) (Q : List Opd → DSt → Prop) : Opd → DSt → Prop := fun o δ1 => ts δ1 R (kaCons2 o Q)
def asI (x : Option PyData) (Q : Int → Prop) : Prop := match x with
  | some (.int i) => Q i
  | _ => False
theorem asI_s (i : Int) (Q : Int → Prop) : asI (some (.int i)) Q = Q i := rfl
def kP2 (Q : Option Int → DSt → Prop) (δ : DSt) : Int → Prop := fun i => Q (some i) δ
def kP (Q : Option Int → DSt → Prop) : Opd → DSt → Prop := fun o δ1 => asI (o.res δ1) (kP2 Q δ1)
def kSl4 (lo hi : Option Int) (Q : Rs → DSt → Prop) (δ : DSt) : PyData → Prop := fun x => slD x lo hi (kZ Q δ)
def kSl3 (o : Opd) (lo : Option Int) (Q : Rs → DSt → Prop) : Option Int → DSt → Prop := fun hi δ3 => with1 (o.res δ3) (kSl4 lo hi Q δ3)
def kSl2 (o : Opd) (th : TPd) (R : RX) (Q : Rs → DSt → Prop) : Option Int → DSt → Prop := fun lo δ2 => th δ2 R (kSl3 o lo Q)
def kSl1 (tl th : TPd) (R : RX) (Q : Rs → DSt → Prop) : Opd → DSt → Prop := fun o δ1 => tl δ1 R (kSl2 o th R Q)
def withL (x : Option (List PyData)) (k : List PyData → Prop) : Prop := match x with
  | some xs => k xs
  | none => False
theorem withL_s (x : List PyData) (k : List PyData → Prop) : withL (some x) k = k x := rfl
def kCB2 (f : KC) (Q : Rs → DSt → Prop) (δ : DSt) : List PyData → Prop := fun xs => f xs (kZ Q δ)
def kCB (f : KC) (Q : Rs → DSt → Prop) : List Opd → DSt → Prop := fun os δ1 => withL (resAll os δ1) (kCB2 f Q δ1)
def kIsi2 (Ts : List String) (Q : Rs → DSt → Prop) (δ : DSt) : PyData → Prop := fun x => isD x = false ∧ Q (.d (.bool (Ts.any fun T => isiB T x))) δ
def kIsi (Ts : List String) (Q : Rs → DSt → Prop) : Opd → DSt → Prop := fun o δ1 => with1 (o.res δ1) (kIsi2 Ts Q δ1)
def kR (b : Bool) (R : RX) (δ : DSt) : RXc := fun C xs => b = true ∧ R C xs δ
def kQ (is : List Nat) (δ : DSt) (Q : Rs → DSt → Prop) : Rs → List (List PyData) → Prop := fun r ys => Q r (putB is ys δ)
def withA (x : Option (List Ag)) (n : Nat) (S : DSp) (is : List Nat) (R : RX) (Q : Rs → DSt → Prop) (δ : DSt) : Prop := match x with
  | some as => as.length = n ∧ is.length ≤ 1 ∧ S as (fun C xs => is = [] ∧ R C xs δ) (kQ is δ Q)
  | none => False
theorem withA_s (as : List Ag) (n : Nat) (S : DSp) (is : List Nat) (R : RX) (Q : Rs → DSt → Prop) (δ : DSt) : withA (some as) n S is R Q δ = (as.length = n ∧ is.length ≤ 1 ∧ S as (fun C xs => is = [] ∧ R C xs δ) (kQ is δ Q)) := rfl
def kCall (n : Nat) (S : DSp) (R : RX) (Q : Rs → DSt → Prop) : List Opd → DSt → Prop := fun os δ1 => withA (agsOf (nrm os δ1) δ1) n S (vix (nrm os δ1)) R Q δ1
def kCallK (n : Nat) (S : DSp) (is : List Nat) (R : RX) (Q : Rs → DSt → Prop) : List Opd → DSt → Prop := fun os δ1 => os.length = n ∧ withA (agsOf (nrm (permL is os) δ1) δ1) n S (vix (nrm (permL is os) δ1)) R Q δ1
def kComp (vs : List Nat) (g : TGd) (tt : TTd) (te : TD) (Q : Rs → DSt → Prop) : List PyData → DSt → Prop := fun xs δ1 => compD vs g tt te xs [] δ1 fun acc δ2 => Q (.f acc) (restD δ1 δ2 vs)
def kCompE (vs : List Nat) (δ1 : DSt) (Q : Rs → DSt → Prop) : List PyData → DSt → Prop := fun acc δ2 => Q (.f acc) (restD δ1 δ2 vs)
def kC3 (vs : List Nat) (g : TGd) (tt : TTd) (te : TD) (xs acc : List PyData) (Q : List PyData → DSt → Prop) : Rs → DSt → Prop := fun r δ3 => acc.length < 16777216 ∧ compD vs g tt te xs (acc ++ [r.val]) δ3 Q
def kC2 (vs : List Nat) (g : TGd) (tt : TTd) (te : TD) (xs acc : List PyData) (Q : List PyData → DSt → Prop) : Bool → DSt → Prop := fun b δ2 => if b = true then te δ2 noR (kC3 vs g tt te xs acc Q) else compD vs g tt te xs acc δ2 Q
def kC1 (vs : List Nat) (g : TGd) (tt : TTd) (te : TD) (xs acc : List PyData) (Q : List PyData → DSt → Prop) : DSt → Prop := fun δ1 => tt δ1 noR (kC2 vs g tt te xs acc Q)
def kg (gs : TGsd) (r : List PyData) (Q : DSt → Prop) : DSt → Prop := fun δ1 => gs r δ1 Q
def seqD (n : Nat) (g : TGsd) (x : PyData) (δ : DSt) (Q : DSt → Prop) : Prop := match x with
  | .tuple xs => xs.length = n ∧ g xs δ Q
  | .list xs => xs.length = n ∧ g xs δ Q
  | _ => False
def putI (n : Option Nat) (i : Nat) (m : Option Addr) (xs : List PyData) (x : PyData) (δ : DSt) (Q : DSt → Prop) : Prop := match n with
  | some j => Q (ss δ i (.o m (xs.set j x)))
  | none => False
theorem putI_s (j i : Nat) (m : Option Addr) (xs : List PyData) (x : PyData) (δ : DSt) (Q : DSt → Prop) : putI (some j) i m xs x δ Q = Q (ss δ i (.o m (xs.set j x))) := rfl
def subI (o : Option PyData) (s : Sl) (i : Nat) (x : PyData) (δ : DSt) (Q : DSt → Prop) : Prop := match o, s with
  | some (.int k), .o m xs => putI (ixN xs.length k) i m xs x δ Q
  | _, _ => False
theorem subI_s (k : Int) (m : Option Addr) (xs : List PyData) (i : Nat) (x : PyData) (δ : DSt) (Q : DSt → Prop) : subI (some (.int k)) (.o m xs) i x δ Q = putI (ixN xs.length k) i m xs x δ Q := rfl
def kSub (i : Nat) (x : PyData) (Q : DSt → Prop) : Opd → DSt → Prop := fun o δ1 => subI (o.res δ1) (gs δ1 i) i x δ1 Q
def seqV (x : PyData) (Q : List PyData → Prop) : Prop := match x with
  | .list xs => Q xs
  | .tuple xs => Q xs
  | _ => False
def kQd (Q : List PyData → DSt → Prop) (δ : DSt) : List PyData → Prop := fun xs => Q xs δ
def kSeqI (Q : List PyData → DSt → Prop) : Rs → DSt → Prop := fun r δ1 => seqV r.val (kQd Q δ1)
def kR1b (Q : List PyData → DSt → Prop) (δ : DSt) : Int → Prop := fun n => okRg n ∧ Q (rangeD 0 n.toNat) δ
def kR1 (Q : List PyData → DSt → Prop) : Opd → DSt → Prop := fun o δ1 => asI (o.res δ1) (kR1b Q δ1)
def as2I (x y : Option PyData) (Q : Int → Int → Prop) : Prop := match x, y with
  | some (.int i), some (.int j) => Q i j
  | _, _ => False
theorem as2I_s (i j : Int) (Q : Int → Int → Prop) : as2I (some (.int i)) (some (.int j)) Q = Q i j := rfl
def kR2c (Q : List PyData → DSt → Prop) (δ : DSt) : Int → Int → Prop := fun a b => okRg a ∧ okRg b ∧ Q (rangeD a (b - a).toNat) δ
def kR2b (o : Opd) (Q : List PyData → DSt → Prop) : Opd → DSt → Prop := fun o' δ2 => as2I (o.res δ2) (o'.res δ2) (kR2c Q δ2)
def kR2 (tb : TO') (R : RX) (Q : List PyData → DSt → Prop) : Opd → DSt → Prop := fun o δ1 => tb δ1 R (kR2b o Q)
def enumV (x : PyData) (Q : List PyData → Prop) : Prop := match x with
  | .list xs => Q (enumD 0 xs)
  | _ => False
def kEn (Q : List PyData → DSt → Prop) : Rs → DSt → Prop := fun r δ1 => enumV r.val (kQd Q δ1)
def zipV (x y : PyData) (Q : List PyData → Prop) : Prop := match x, y with
  | .list xs, .list ys => Q (zipD xs ys)
  | .tuple xs, .tuple ys => Q (zipD xs ys)
  | .list xs, .tuple ys => Q (zipD xs ys)
  | .tuple xs, .list ys => Q (zipD xs ys)
  | _, _ => False
def kZp2 (r : Rs) (Q : List PyData → DSt → Prop) : Rs → DSt → Prop := fun r' δ2 => zipV r.val r'.val (kQd Q δ2)
def kZp (tb : TD) (R : RX) (Q : List PyData → DSt → Prop) : Rs → DSt → Prop := fun r δ1 => tb δ1 R (kZp2 r Q)
/-! statements -/
def setNx (D : DEnds) (k : DSt → Prop) : DEnds := { D with nx := k }
def kNx (u : TSd) (D : DEnds) : DSt → Prop := fun δ1 => u D δ1
def kDrop (D : DEnds) : Rs → DSt → Prop := fun _ δ1 => D.nx δ1
def kIf (t u : TSd) (D : DEnds) : Bool → DSt → Prop := fun b δ1 => if b = true then t D δ1 else u D δ1
def kSet (i : Nat) (D : DEnds) : Rs → DSt → Prop := fun r δ1 => i < δ1.length ∧ D.nx (ss δ1 i r.sl)
def kAsg (g : TGd) (D : DEnds) : Rs → DSt → Prop := fun r δ1 => g r.val δ1 D.nx
def kAug3 (i : Nat) (D : DEnds) (δ : DSt) : Rs → Prop := fun z => i < δ.length ∧ D.nx (ss δ i z.sl)
def kAug2 (i : Nat) (f : K2) (D : DEnds) (δ : DSt) : PyData → PyData → Prop := fun x y => f x y (kAug3 i D δ)
def kAug (i : Nat) (f : K2) (D : DEnds) : Opd → DSt → Prop := fun b δ1 => with2 (gs δ1 i).val (b.res δ1) (kAug2 i f D δ1)
def appV (s : Sl) (i : Nat) (r : Rs) (D : DEnds) (δ : DSt) : Prop := match s with
  | .o m xs => xs.length < 16777216 ∧ D.nx (ss δ i (.o m (xs ++ [r.val])))
  | _ => False
theorem appV_s (m : Option Addr) (xs : List PyData) (i : Nat) (r : Rs) (D : DEnds) (δ : DSt) : appV (.o m xs) i r D δ = (xs.length < 16777216 ∧ D.nx (ss δ i (.o m (xs ++ [r.val])))) := rfl
def kApp (i : Nat) (D : DEnds) : Rs → DSt → Prop := fun r δ1 => appV (gs δ1 i) i r D δ1
def isO (s : Sl) : Prop := ∃ m xs, s = .o m xs
theorem isO_o (m : Option Addr) (xs : List PyData) : isO (.o m xs) = True := propext ⟨fun _ => trivial, fun _ => ⟨m, xs, rfl⟩⟩
def kPar (is : List Nat) (D : DEnds) : List Rs → DSt → Prop := fun rs δ1 => is.length = rs.length ∧ (∀ i ∈ is, i < δ1.length) ∧ D.nx (setAll is rs δ1)
def forEnds (D : DEnds) (g : TGd) (tb : TSd) (xs : List PyData) : DEnds := { D with nx := forD g tb D xs, ct := forD g tb D xs, bk := D.nx }
def kFor (D : DEnds) (g : TGd) (tb : TSd) (xs : List PyData) : DSt → Prop := fun δ1 => tb (forEnds D g tb xs) δ1
def kForI (g : TGd) (tb : TSd) (D : DEnds) : List PyData → DSt → Prop := fun xs δ1 => forD g tb D xs δ1
section
variable (δ : DSt) (R : RX) (D : DEnds)
theorem ev_var (i : Nat) (Q) : dVar i δ R Q = vVar (gs δ i) i δ Q := rfl
theorem ev_vd (x) (i : Nat) (Q) : vVar (.d x) i δ Q = Q (.d x) δ := rfl
theorem ev_vo (m xs) (i : Nat) (Q) : vVar (.o m xs) i δ Q = Q (.d (.list xs)) (ss δ i (.d (.list xs))) := rfl
theorem ev_c (x Q) : dC x δ R Q = Q (.d x) δ := rfl
theorem ev_avar (i : Nat) (Q) : aVar i δ R Q = vaVar (gs δ i) i δ Q := rfl
theorem ev_ad (x) (i : Nat) (Q) : vaVar (.d x) i δ Q = Q (.v i) δ := propext ⟨fun h => h.2, fun h => ⟨(fun z => by cases z), h⟩⟩
theorem ev_ao (m xs) (i : Nat) (Q) : vaVar (.o m xs) i δ Q = Q (.v i) δ := propext ⟨fun h => h.2, fun h => ⟨(fun z => by cases z), h⟩⟩
theorem ev_kz (Q z) : kZ Q δ z = Q z δ := rfl
theorem ev_of (t : TD) (Q) : aOf t δ R Q = t δ R (kOf Q) := rfl
theorem ev_kof (Q r) : kOf Q r δ = Q (.x r.val) δ := rfl
theorem ev_op (f : K2) (ta tb Q) : dOp f ta tb δ R Q = ta δ R (kOp1 f tb R Q) := by
  unfold dOp kOp1 kOp2 with2 kOp3 kZ
  rfl
theorem ev_op1 (f : K2) (tb Q a) : kOp1 f tb R Q a δ = tb δ R (kOp2 f a Q) := rfl
theorem ev_op2 (f : K2) (a Q b) : kOp2 f a Q b δ = with2 (a.res δ) (b.res δ) (kOp3 f Q δ) := rfl
theorem ev_op3 (f : K2) (Q x y) : kOp3 f Q δ x y = f x y (kZ Q δ) := rfl
theorem ev_un (f : K1) (ta Q) : dUn f ta δ R Q = ta δ R (kUn f Q) := by
  unfold dUn kUn; congr 1; funext a δ1; cases a.res δ1 <;> rfl
theorem ev_un1 (f : K1) (Q a) : kUn f Q a δ = with1 (a.res δ) (kUn1 f Q δ) := rfl
theorem ev_un2 (f : K1) (Q x) : kUn1 f Q δ x = f x (kZ Q δ) := rfl
theorem ev_test (t Q) : dTest t δ R Q = t δ R (kTest Q) := by unfold dTest kTest asB; rfl
theorem ev_ktest (Q r) : kTest Q r δ = asB r.val Q δ := rfl
theorem ev_and (t u Q) : dAnd t u δ R Q = t δ R (kAnd u R Q) := rfl
theorem ev_kandT (u Q) : kAnd u R Q true δ = u δ R Q := rfl
theorem ev_kandF (u Q) : kAnd u R Q false δ = Q false δ := rfl
theorem ev_or (t u Q) : dOr t u δ R Q = t δ R (kOr u R Q) := rfl
theorem ev_korT (u Q) : kOr u R Q true δ = Q true δ := rfl
theorem ev_korF (u Q) : kOr u R Q false δ = u δ R Q := rfl
theorem ev_not (t Q) : dNot t δ R Q = t δ R (kNot Q) := rfl
theorem ev_knot (Q c) : kNot Q c δ = Q (!c) δ := rfl
theorem ev_andV (t u Q) : dAndV t u δ R Q = t δ R (kAndV u R Q) := by unfold dAndV kAndV asB kAndV2; rfl
theorem ev_kandV (u Q r) : kAndV u R Q r δ = asB r.val (kAndV2 u R Q) δ := rfl
theorem ev_kandVT (u Q) : kAndV2 u R Q true δ = u δ R Q := rfl
theorem ev_kandVF (u Q) : kAndV2 u R Q false δ = Q (.d (.bool false)) δ := rfl
theorem ev_orV (t u Q) : dOrV t u δ R Q = t δ R (kOrV u R Q) := by unfold dOrV kOrV asB kOrV2; rfl
theorem ev_korV (u Q r) : kOrV u R Q r δ = asB r.val (kOrV2 u R Q) δ := rfl
theorem ev_korVT (u Q) : kOrV2 u R Q true δ = Q (.d (.bool true)) δ := rfl
theorem ev_korVF (u Q) : kOrV2 u R Q false δ = u δ R Q := rfl
theorem ev_notV (t Q) : dNotV t δ R Q = t δ R (kNotV Q) := by unfold dNotV kNotV asB kNotV2; rfl
theorem ev_knotV (Q r) : kNotV Q r δ = asB r.val (kNotV2 Q) δ := rfl
theorem ev_knotV2 (Q c) : kNotV2 Q c δ = Q (.d (.bool (!c))) δ := rfl
theorem ev_ifE (t ta tb Q) : dIf t ta tb δ R Q = t δ R (kIfE ta tb R Q) := rfl
theorem ev_kifET (ta tb Q) : kIfE ta tb R Q true δ = ta δ R Q := rfl
theorem ev_kifEF (ta tb Q) : kIfE ta tb R Q false δ = tb δ R Q := rfl
theorem ev_chain (f f' : K2) (ta tb tc Q) : dChain f f' ta tb tc δ R Q = ta δ R (kCh1 f f' tb tc R Q) := by unfold dChain kCh1 kCh2 with2 kCh2b kCh3 asB kCh4 kCh5 with2 kCh6 kZ; rfl
theorem ev_ch1 (f f' : K2) (tb tc Q a) : kCh1 f f' tb tc R Q a δ = tb δ R (kCh2 f f' a tc R Q) := rfl
theorem ev_ch2 (f f' : K2) (a tc Q b) : kCh2 f f' a tc R Q b δ = with2 (a.res δ) (b.res δ) (kCh2b f f' b tc R Q δ) := rfl
theorem ev_ch2b (f f' : K2) (b tc Q x y) : kCh2b f f' b tc R Q δ x y = f x y (kCh3 f' b tc R Q δ) := rfl
theorem ev_ch3 (f' : K2) (b tc Q z) : kCh3 f' b tc R Q δ z = asB z.val (kCh4 f' b tc R Q) δ := rfl
theorem ev_ch4T (f' : K2) (b tc Q) : kCh4 f' b tc R Q true δ = tc δ R (kCh5 f' b Q) := rfl
theorem ev_ch4F (f' : K2) (b tc Q) : kCh4 f' b tc R Q false δ = Q (.d (.bool false)) δ := rfl
theorem ev_ch5 (f' : K2) (b Q c) : kCh5 f' b Q c δ = with2 (b.res δ) (c.res δ) (kCh6 f' Q δ) := rfl
theorem ev_ch6 (f' : K2) (Q x y) : kCh6 f' Q δ x y = f' x y (kZ Q δ) := rfl
theorem ev_nil (Q) : dNil δ R Q = Q [] δ := rfl
theorem ev_cons (t ts Q) : dCons t ts δ R Q = t δ R (kCons ts R Q) := rfl
theorem ev_kcons (ts Q r) : kCons ts R Q r δ = ts δ R (kCons2 r Q) := rfl
theorem ev_kcons2 (r Q xs) : kCons2 r Q xs δ = Q (r.val :: xs) δ := rfl
theorem ev_lst (ts Q) : dLst ts δ R Q = ts δ R (kLst Q) := rfl
theorem ev_klst (Q xs) : kLst Q xs δ = (xs.length ≤ 16777216 ∧ Q (.f xs) δ) := rfl
theorem ev_tup (ts Q) : dTup ts δ R Q = ts δ R (kTup Q) := rfl
theorem ev_ktup (Q xs) : kTup Q xs δ = (xs.length ≤ 16777216 ∧ Q (.d (.tuple xs)) δ) := rfl
theorem ev_rnil (Q) : rNil δ R Q = Q [] δ := rfl
theorem ev_rcons (t ts Q) : rCons t ts δ R Q = t δ R (krCons ts R Q) := rfl
theorem ev_krcons (ts Q r) : krCons ts R Q r δ = ts δ R (krCons2 r Q) := rfl
theorem ev_krcons2 (r Q xs) : krCons2 r Q xs δ = Q (r :: xs) δ := rfl
theorem ev_anil (Q) : aNil δ R Q = Q [] δ := rfl
theorem ev_acons (t ts Q) : aCons t ts δ R Q = t δ R (kaCons ts R Q) := rfl
theorem ev_kacons (ts Q r) : kaCons ts R Q r δ = ts δ R (kaCons2 r Q) := rfl
theorem ev_kacons2 (r Q xs) : kaCons2 r Q xs δ = Q (r :: xs) δ := rfl
theorem ev_pnone (Q) : pNone δ R Q = Q none δ := rfl
theorem ev_psome (t Q) : pSome t δ R Q = t δ R (kP Q) := by unfold pSome kP asI kP2; rfl
theorem ev_kp (Q o) : kP Q o δ = asI (o.res δ) (kP2 Q δ) := rfl
theorem ev_kp2 (Q i) : kP2 Q δ i = Q (some i) δ := rfl
theorem ev_sl (ta tl th Q) : dSl ta tl th δ R Q = ta δ R (kSl1 tl th R Q) := by unfold dSl kSl1 kSl2 kSl3 with1 kSl4 kZ; rfl
theorem ev_sl1 (tl th Q o) : kSl1 tl th R Q o δ = tl δ R (kSl2 o th R Q) := rfl
theorem ev_sl2 (o th Q lo) : kSl2 o th R Q lo δ = th δ R (kSl3 o lo Q) := rfl
theorem ev_sl3 (o lo Q hi) : kSl3 o lo Q hi δ = with1 (o.res δ) (kSl4 lo hi Q δ) := rfl
theorem ev_sl4 (lo hi Q x) : kSl4 lo hi Q δ x = slD x lo hi (kZ Q δ) := rfl
theorem ev_slL (xs lo hi k) : slD (.list xs) lo hi k = k (.f (cutD xs lo hi)) := rfl
theorem ev_slT (xs lo hi k) : slD (.tuple xs) lo hi k = k (.d (.tuple (cutD xs lo hi))) := rfl
theorem ev_cb (f : KC) (ts Q) : dCB f ts δ R Q = ts δ R (kCB f Q) := by unfold dCB kCB withL kCB2 kZ; rfl
theorem ev_kcb (f : KC) (Q os) : kCB f Q os δ = withL (resAll os δ) (kCB2 f Q δ) := rfl
theorem ev_kcb2 (f : KC) (Q xs) : kCB2 f Q δ xs = f xs (kZ Q δ) := rfl
theorem ev_isi (Ts t Q) : dIsi Ts t δ R Q = t δ R (kIsi Ts Q) := by unfold dIsi kIsi with1 kIsi2; rfl
theorem ev_kisi (Ts Q o) : kIsi Ts Q o δ = with1 (o.res δ) (kIsi2 Ts Q δ) := rfl
theorem ev_kisi2 (Ts Q x) : kIsi2 Ts Q δ x = (isD x = false ∧ Q (.d (.bool (Ts.any fun T => isiB T x))) δ) := rfl
theorem ev_call (n S ts Q) : dCallN n S ts δ R Q = ts δ R (kCall n S R Q) := by unfold dCallN kCall withA kQ; rfl
theorem ev_kcall (n S Q os) : kCall n S R Q os δ = withA (agsOf (nrm os δ) δ) n S (vix (nrm os δ)) R Q δ := rfl
theorem ev_callK (n S is ts Q) : dCallK n S is ts δ R Q = ts δ R (kCallK n S is R Q) := by unfold dCallK kCallK withA kQ; rfl
theorem ev_kcallK (n S is Q os) : kCallK n S is R Q os δ = (os.length = n ∧ withA (agsOf (nrm (permL is os) δ) δ) n S (vix (nrm (permL is os) δ)) R Q δ) := rfl
theorem ev_kq (is Q r ys) : kQ is δ Q r ys = Q r (putB is ys δ) := rfl
theorem ev_comp (vs ti g tt te Q) : dComp vs ti g tt te δ R Q = ti δ R (kComp vs g tt te Q) := rfl
theorem ev_kcomp (vs g tt te Q xs) : kComp vs g tt te Q xs δ = compD vs g tt te xs [] δ (kCompE vs δ Q) := rfl
theorem ev_kcompE (vs δ1 Q acc) : kCompE vs δ1 Q acc δ = Q (.f acc) (restD δ1 δ vs) := rfl
theorem ev_compN (vs g tt te acc Q) : compD vs g tt te [] acc δ Q = Q acc δ := rfl
theorem ev_compC (vs g tt te x xs acc Q) : compD vs g tt te (x :: xs) acc δ Q = g x (wipeD δ vs) (kC1 vs g tt te xs acc Q) := rfl
theorem ev_kc1 (vs g tt te xs acc Q) : kC1 vs g tt te xs acc Q δ = tt δ noR (kC2 vs g tt te xs acc Q) := rfl
theorem ev_kc2T (vs g tt te xs acc Q) : kC2 vs g tt te xs acc Q true δ = te δ noR (kC3 vs g tt te xs acc Q) := rfl
theorem ev_kc2F (vs g tt te xs acc Q) : kC2 vs g tt te xs acc Q false δ = compD vs g tt te xs acc δ Q := rfl
theorem ev_kc3 (vs g tt te xs acc Q r) : kC3 vs g tt te xs acc Q r δ = (acc.length < 16777216 ∧ compD vs g tt te xs (acc ++ [r.val]) δ Q) := rfl
theorem ev_yes (Q) : tYesD δ R Q = Q true δ := rfl
theorem ev_gn (i : Nat) (x Q) : gN i x δ Q = (i < δ.length ∧ Q (ss δ i (.d x))) := rfl
theorem ev_gnil (Q) : gNilD [] δ Q = Q δ := propext ⟨fun h => h.2, fun h => ⟨rfl, h⟩⟩
theorem ev_gcons (g gs x r Q) : gConsD g gs (x :: r) δ Q = g x δ (kg gs r Q) := rfl
theorem ev_kg (gs r Q) : kg gs r Q δ = gs r δ Q := rfl
theorem ev_gtup (n g x Q) : gTupD n g x δ Q = seqD n g x δ Q := by unfold gTupD seqD; rfl
theorem ev_seqT (n g xs Q) : seqD n g (.tuple xs) δ Q = (xs.length = n ∧ g xs δ Q) := rfl
theorem ev_seqL (n g xs Q) : seqD n g (.list xs) δ Q = (xs.length = n ∧ g xs δ Q) := rfl
theorem ev_sub (i : Nat) (t x Q) : gSubD i t x δ Q = ((gs δ i).val ≠ none ∧ t δ noR (kSub i x Q)) := by unfold gSubD kSub subI putI noR; rfl
theorem ev_ksub (i : Nat) (x Q o) : kSub i x Q o δ = subI (o.res δ) (gs δ i) i x δ Q := rfl
theorem ev_iseq (t Q) : iSeq t δ R Q = t δ R (kSeqI Q) := by unfold iSeq kSeqI seqV kQd; rfl
theorem ev_kiseq (Q r) : kSeqI Q r δ = seqV r.val (kQd Q δ) := rfl
theorem ev_seqVL (xs Q) : seqV (.list xs) Q = Q xs := rfl
theorem ev_seqVT (xs Q) : seqV (.tuple xs) Q = Q xs := rfl
theorem ev_kqd (Q xs) : kQd Q δ xs = Q xs δ := rfl
theorem ev_rg1 (t Q) : iRange1 t δ R Q = t δ R (kR1 Q) := by unfold iRange1 kR1 asI kR1b; rfl
theorem ev_krg1 (Q o) : kR1 Q o δ = asI (o.res δ) (kR1b Q δ) := rfl
theorem ev_krg1b (Q n) : kR1b Q δ n = (okRg n ∧ Q (rangeD 0 n.toNat) δ) := rfl
theorem ev_rg2 (t u Q) : iRange2 t u δ R Q = t δ R (kR2 u R Q) := by unfold iRange2 kR2 kR2b as2I kR2c; rfl
theorem ev_krg2 (u Q o) : kR2 u R Q o δ = u δ R (kR2b o Q) := rfl
theorem ev_krg2b (o Q o') : kR2b o Q o' δ = as2I (o.res δ) (o'.res δ) (kR2c Q δ) := rfl
theorem ev_krg2c (Q a b) : kR2c Q δ a b = (okRg a ∧ okRg b ∧ Q (rangeD a (b - a).toNat) δ) := rfl
theorem ev_en (t Q) : iEnumD t δ R Q = t δ R (kEn Q) := by unfold iEnumD kEn enumV kQd; rfl
theorem ev_ken (Q r) : kEn Q r δ = enumV r.val (kQd Q δ) := rfl
theorem ev_enL (xs Q) : enumV (.list xs) Q = Q (enumD 0 xs) := rfl
theorem ev_zp (t u Q) : iZipD t u δ R Q = t δ R (kZp u R Q) := by unfold iZipD kZp kZp2 zipV kQd; rfl
theorem ev_kzp (u Q r) : kZp u R Q r δ = u δ R (kZp2 r Q) := rfl
theorem ev_kzp2 (r Q r') : kZp2 r Q r' δ = zipV r.val r'.val (kQd Q δ) := rfl
theorem ev_zpL (xs ys Q) : zipV (.list xs) (.list ys) Q = Q (zipD xs ys) := rfl
theorem ev_zpT (xs ys Q) : zipV (.tuple xs) (.tuple ys) Q = Q (zipD xs ys) := rfl
theorem ev_zpLT (xs ys Q) : zipV (.list xs) (.tuple ys) Q = Q (zipD xs ys) := rfl
theorem ev_zpTL (xs ys Q) : zipV (.tuple xs) (.list ys) Q = Q (zipD xs ys) := rfl
theorem ev_snext : sNext D δ = D.nx δ := rfl
theorem ev_sseq (t u) : sSeq t u D δ = t (setNx D (kNx u D)) δ := rfl
theorem ev_knx (u) : kNx u D δ = u D δ := rfl
theorem nx_set (k) : (setNx D k).nx = k := rfl
theorem rt_set (k) : (setNx D k).rt = D.rt := rfl
theorem bk_set (k) : (setNx D k).bk = D.bk := rfl
theorem ct_set (k) : (setNx D k).ct = D.ct := rfl
theorem ex_set (k) : (setNx D k).ex = D.ex := rfl
theorem nx_for (g tb xs) : (forEnds D g tb xs).nx = forD g tb D xs := rfl
theorem rt_for (g tb xs) : (forEnds D g tb xs).rt = D.rt := rfl
theorem bk_for (g tb xs) : (forEnds D g tb xs).bk = D.nx := rfl
theorem ct_for (g tb xs) : (forEnds D g tb xs).ct = forD g tb D xs := rfl
theorem ex_for (g tb xs) : (forEnds D g tb xs).ex = D.ex := rfl
theorem nx_end (as m Q) : (dEnds as m Q R).nx δ = dRet as m Q (.d .none) δ := rfl
theorem rt_end (as m Q) : (dEnds as m Q R).rt = dRet as m Q := rfl
theorem ex_end (as m Q) : (dEnds as m Q R).ex = R := rfl
theorem ev_sbrk : sBreak D δ = D.bk δ := rfl
theorem ev_scont : sCont D δ = D.ct δ := rfl
theorem ev_sdrop (t) : sDrop t D δ = t δ D.ex (kDrop D) := rfl
theorem ev_kdrop (r) : kDrop D r δ = D.nx δ := rfl
theorem ev_sret (t) : sRet t D δ = t δ D.ex D.rt := rfl
theorem ev_sretN : sRetN D δ = D.rt (.d .none) δ := rfl
theorem ev_sif (c t u) : sIf c t u D δ = c δ D.ex (kIf t u D) := rfl
theorem ev_kifT (t u) : kIf t u D true δ = t D δ := rfl
theorem ev_kifF (t u) : kIf t u D false δ = u D δ := rfl
theorem ev_sset (i : Nat) (t) : sSet i t D δ = t δ D.ex (kSet i D) := rfl
theorem ev_kset (i : Nat) (r) : kSet i D r δ = (i < δ.length ∧ D.nx (ss δ i r.sl)) := rfl
theorem ev_sasg (t g) : sAsg t g D δ = t δ D.ex (kAsg g D) := rfl
theorem ev_kasg (g r) : kAsg g D r δ = g r.val δ D.nx := rfl
theorem ev_saug (i : Nat) (f : K2) (t) : sAug i f t D δ = ((gs δ i).val ≠ none ∧ t δ D.ex (kAug i f D)) := by unfold sAug kAug with2 kAug2 kAug3; rfl
theorem ev_kaug (i : Nat) (f : K2) (o) : kAug i f D o δ = with2 (gs δ i).val (o.res δ) (kAug2 i f D δ) := rfl
theorem ev_kaug2 (i : Nat) (f : K2) (x y) : kAug2 i f D δ x y = f x y (kAug3 i D δ) := rfl
theorem ev_kaug3 (i : Nat) (z) : kAug3 i D δ z = (i < δ.length ∧ D.nx (ss δ i z.sl)) := rfl
theorem ev_sapp (i : Nat) (t) : sApp i t D δ = (isO (gs δ i) ∧ t δ D.ex (kApp i D)) := by unfold sApp kApp appV isO; rfl
theorem ev_kapp (i : Nat) (r) : kApp i D r δ = appV (gs δ i) i r D δ := rfl
theorem ev_spar (is t) : sPar is t D δ = t δ D.ex (kPar is D) := rfl
theorem ev_kpar (is rs) : kPar is D rs δ = (is.length = rs.length ∧ (∀ i ∈ is, i < δ.length) ∧ D.nx (setAll is rs δ)) := rfl
theorem ev_sfor (ti g tb) : sFor ti g tb D δ = ti δ D.ex (kForI g tb D) := rfl
theorem ev_kfori (g tb xs) : kForI g tb D xs δ = forD g tb D xs δ := rfl
theorem ev_forN (g tb) : forD g tb D [] δ = D.nx δ := rfl
theorem ev_forC (g tb x xs) : forD g tb D (x :: xs) δ = g x δ (kFor D g tb xs) := rfl
theorem ev_kfor (g tb xs) : kFor D g tb xs δ = tb (forEnds D g tb xs) δ := rfl
end
/-! operations -/
section
variable (k : Rs → Prop)
theorem o_addI (i j : Int) : addD (.int i) (.int j) k = k (.d (.int (i + j))) := rfl
theorem o_addL (x y : List PyData) : addD (.list x) (.list y) k = (x.length + y.length ≤ 16777216 ∧ k (.f (x ++ y))) := rfl
theorem o_addT (x y : List PyData) : addD (.tuple x) (.tuple y) k = (x.length + y.length ≤ 16777216 ∧ k (.d (.tuple (x ++ y)))) := rfl
theorem o_addS (x y : Str) : addD (.str x) (.str y) k = (x.length + y.length ≤ 16777216 ∧ k (.d (.str (x ++ y)))) := rfl
theorem o_sub (i j : Int) : subD (.int i) (.int j) k = k (.d (.int (i - j))) := rfl
theorem o_iadd (i j : Int) : iaddD (.int i) (.int j) k = k (.d (.int (i + j))) := rfl
theorem o_mod (i j : Int) : modD (.int i) (.int j) k = (0 < j ∧ k (.d (.int (i % j)))) := rfl
theorem o_fdiv (i j : Int) : fdivD (.int i) (.int j) k = (CDivW i j ∧ k (.d (.int (i / j)))) := rfl
theorem o_pow (i j : Int) : powD (.int i) (.int j) k = (CPow i j ∧ k (.d (.int (i ^ j.toNat)))) := rfl
theorem o_mulI (i j : Int) : mulD (.int i) (.int j) k = (CMulX i j ∧ k (.d (.int (i * j)))) := rfl
theorem o_mulL (x : List PyData) (n : Int) : mulD (.list x) (.int n) k = (0 ≤ n ∧ n ≤ 100000 ∧ x.length ≤ 100 ∧ k (.f (repL n.toNat x))) := rfl
theorem o_mulT (x : List PyData) (n : Int) : mulD (.tuple x) (.int n) k = (1 ≤ n ∧ n ≤ 1000 ∧ x ≠ [] ∧ x.length ≤ 1000 ∧ k (.d (.tuple (repL n.toNat x)))) := rfl
theorem o_lt (i j : Int) : ltD (.int i) (.int j) k = k (.d (.bool (decide (i < j)))) := rfl
theorem o_le (i j : Int) : leD (.int i) (.int j) k = k (.d (.bool (decide (i ≤ j)))) := rfl
theorem o_gt (i j : Int) : gtD (.int i) (.int j) k = k (.d (.bool (decide (j < i)))) := rfl
theorem o_ge (i j : Int) : geD (.int i) (.int j) k = k (.d (.bool (decide (j ≤ i)))) := rfl
theorem o_isN (x : PyData) : isND x .none k = k (.d (.bool (PyData.isNone x))) := by cases x <;> rfl
theorem o_notN (x : PyData) : notND x .none k = k (.d (.bool (!PyData.isNone x))) := by cases x <;> rfl
theorem n_none : PyData.isNone .none = true := rfl
theorem n_int (i : Int) : PyData.isNone (.int i) = false := rfl
theorem n_bool (i : Bool) : PyData.isNone (.bool i) = false := rfl
theorem n_str (i : Str) : PyData.isNone (.str i) = false := rfl
theorem n_list (i : List PyData) : PyData.isNone (.list i) = false := rfl
theorem n_tup (i : List PyData) : PyData.isNone (.tuple i) = false := rfl
theorem o_neg (i : Int) : negD (.int i) k = k (.d (.int (-i))) := rfl
theorem o_rev (xs : List PyData) : revD (.list xs) k = k (.f xs.reverse) := rfl
def ixV (o : Option PyData) (k : Rs → Prop) : Prop := match o with
  | some z => k (.d z)
  | none => False
theorem ixV_s (z : PyData) : ixV (some z) k = k (.d z) := rfl
theorem o_ixL (xs : List PyData) (i : Int) : ixD (.list xs) (.int i) k = ixV (atI xs i) k := rfl
theorem o_ixT (xs : List PyData) (i : Int) : ixD (.tuple xs) (.int i) k = ixV (atI xs i) k := rfl
theorem c_abs (i : Int) : absK [.int i] k = k (.d (.int (if i < 0 then -i else i))) := rfl
theorem c_intI (i : Int) : intK [.int i] k = k (.d (.int i)) := rfl
theorem c_intB (b : Bool) : intK [.bool b] k = k (.d (.int (if b then 1 else 0))) := rfl
theorem c_lenL (ys : List PyData) : lenK [.list ys] k = k (.d (.int (ys.length : Int))) := rfl
theorem c_lenT (ys : List PyData) : lenK [.tuple ys] k = k (.d (.int (ys.length : Int))) := rfl
theorem c_max2 (i j : Int) : max2K [.int i, .int j] k = k (.d (.int (if j > i then j else i))) := rfl
theorem c_min2 (i j : Int) : min2K [.int i, .int j] k = k (.d (.int (if j < i then j else i))) := rfl
theorem c_listL (ys : List PyData) : listK [.list ys] k = k (.f ys) := rfl
theorem c_listT (ys : List PyData) : listK [.tuple ys] k = k (.f ys) := rfl
theorem c_tupL (ys : List PyData) : tupleK [.list ys] k = k (.d (.tuple ys)) := rfl
theorem c_tupT (ys : List PyData) : tupleK [.tuple ys] k = k (.d (.tuple ys)) := rfl
theorem c_divmod (i j : Int) : divmodK [.int i, .int j] k = (CDivW i j ∧ k (.d (.tuple [.int (i / j), .int (i % j)]))) := rfl
theorem c_sum1 (ys : List PyData) : sumK [.list ys] k = ∃ ns : List Int, ys = ns.map PyData.int ∧ k (.d (.int ns.sum)) := rfl
theorem c_max1 (ys : List PyData) : maxK [.list ys] k = ∃ ns : List Int, ys = ns.map PyData.int ∧ 0 < ns.length ∧ ∀ m, m ∈ ns → (∀ y, y ∈ ns → y ≤ m) → k (.d (.int m)) := rfl
theorem c_min1 (ys : List PyData) : minK [.list ys] k = ∃ ns : List Int, ys = ns.map PyData.int ∧ 0 < ns.length ∧ ∀ m, m ∈ ns → (∀ y, y ∈ ns → m ≤ y) → k (.d (.int m)) := rfl
theorem c_all1 (ys : List PyData) : allK [.list ys] k = ∃ bs : List Bool, ys = bs.map PyData.bool ∧ k (.d (.bool (bs.all id))) := rfl
theorem c_any1 (ys : List PyData) : anyK [.list ys] k = ∃ bs : List Bool, ys = bs.map PyData.bool ∧ k (.d (.bool (bs.any id))) := rfl
theorem c_str (i : Int) : strK [.int i] k = (i.natAbs.log2 < 1920 ∧ k (.d (.str (toString i)))) := rfl
end
/-! slots -/
theorem g_0 (x : Sl) (r : DSt) : gs (x :: r) 0 = x := rfl
theorem g_s (x : Sl) (r : DSt) (n : Nat) : gs (x :: r) (n + 1) = gs r n := rfl
theorem s_0 (x y : Sl) (r : DSt) : ss (x :: r) 0 y = y :: r := rfl
theorem s_s (x y : Sl) (r : DSt) (n : Nat) : ss (x :: r) (n + 1) y = x :: ss r n y := rfl
theorem v_un : Sl.val .un = none := rfl
theorem v_d (x : PyData) : Sl.val (.d x) = some x := rfl
theorem v_o (m : Option Addr) (xs : List PyData) : Sl.val (.o m xs) = some (.list xs) := rfl
theorem res_x (y : PyData) (δ : DSt) : Opd.res (.x y) δ = some y := rfl
theorem res_v (i : Nat) (δ : DSt) : Opd.res (.v i) δ = (gs δ i).val := rfl
theorem val_d (x : PyData) : (Rs.d x).val = x := rfl
theorem val_f (x : List PyData) : (Rs.f x).val = .list x := rfl
theorem sl_d (x : PyData) : (Rs.d x).sl = .d x := rfl
theorem sl_f (x : List PyData) : (Rs.f x).sl = .o none x := rfl
theorem ag_d (m : Addr) (x : PyData) : Ag.sl m (.d x) = .d x := rfl
theorem ag_o (m : Addr) (x : List PyData) : Ag.sl m (.o x) = .o (some m) x := rfl
def cons? {α : Type} (x : α) (o : Option (List α)) : Option (List α) := match o with
  | some xs => some (x :: xs)
  | none => none
theorem cons?_s {α : Type} (x : α) (xs : List α) : cons? x (some xs) = some (x :: xs) := rfl
theorem ra_nil (δ : DSt) : resAll [] δ = some [] := rfl
def cons2? (o : Option PyData) (os : Option (List PyData)) : Option (List PyData) := match o, os with
  | some x, some xs => some (x :: xs)
  | _, _ => none
theorem cons2?_s (x : PyData) (xs : List PyData) : cons2? (some x) (some xs) = some (x :: xs) := rfl
theorem ra_cons (o : Opd) (os : List Opd) (δ : DSt) : resAll (o :: os) δ = cons2? (o.res δ) (resAll os δ) := rfl
theorem ag_nil (δ : DSt) : agsOf [] δ = some [] := rfl
theorem ag_x (x : PyData) (os : List Opd) (δ : DSt) : agsOf (.x x :: os) δ = cons? (.d x) (agsOf os δ) := by rw [agsOf]; cases agsOf os δ <;> rfl
def agV (s : Sl) (o : Option (List Ag)) : Option (List Ag) := match s, o with
  | .o _ xs, some as => some (.o xs :: as)
  | _, _ => none
theorem agV_s (m : Option Addr) (xs : List PyData) (as : List Ag) : agV (.o m xs) (some as) = some (.o xs :: as) := rfl
theorem ag_v (i : Nat) (os : List Opd) (δ : DSt) : agsOf (.v i :: os) δ = agV (gs δ i) (agsOf os δ) := by rw [agsOf]; cases gs δ i <;> cases agsOf os δ <;> rfl
theorem nr_nil (δ : DSt) : nrm [] δ = [] := rfl
theorem nr_x (y : PyData) (os : List Opd) (δ : DSt) : nrm (.x y :: os) δ = .x y :: nrm os δ := rfl
def nrV (s : Sl) (i : Nat) : Opd := match s with
  | .d y => .x y
  | _ => .v i
theorem nrV_d (y : PyData) (i : Nat) : nrV (.d y) i = .x y := rfl
theorem nrV_o (m : Option Addr) (y : List PyData) (i : Nat) : nrV (.o m y) i = .v i := rfl
theorem nr_v (i : Nat) (os : List Opd) (δ : DSt) : nrm (.v i :: os) δ = nrV (gs δ i) i :: nrm os δ := rfl
theorem vx_nil : vix [] = [] := rfl
theorem vx_x (y : PyData) (os : List Opd) : vix (.x y :: os) = vix os := rfl
theorem vx_v (i : Nat) (os : List Opd) : vix (.v i :: os) = i :: vix os := rfl
def putV (s : Sl) (i : Nat) (y : List PyData) (δ : DSt) : DSt := match s with
  | .o m _ => ss δ i (.o m y)
  | _ => δ
theorem putV_o (m : Option Addr) (x : List PyData) (i : Nat) (y : List PyData) (δ : DSt) : putV (.o m x) i y δ = ss δ i (.o m y) := rfl
theorem pb_0 (ys : List (List PyData)) (δ : DSt) : putB [] ys δ = δ := rfl
theorem pb_1 (i : Nat) (y : List PyData) (δ : DSt) : putB [i] [y] δ = putV (gs δ i) i y δ := rfl
theorem pl_nil {α : Type} (ws : List α) : permL [] ws = [] := rfl
theorem pl_0 {α : Type} (is : List Nat) (w : α) (ws : List α) : permL (0 :: is) (w :: ws) = w :: permL is (w :: ws) := rfl
theorem pl_1 {α : Type} (is : List Nat) (w v : α) (ws : List α) : permL (1 :: is) (w :: v :: ws) = v :: permL is (w :: v :: ws) := rfl
theorem pl_2 {α : Type} (is : List Nat) (w v u : α) (ws : List α) : permL (2 :: is) (w :: v :: u :: ws) = u :: permL is (w :: v :: u :: ws) := rfl
theorem pl_3 {α : Type} (is : List Nat) (w v u t : α) (ws : List α) : permL (3 :: is) (w :: v :: u :: t :: ws) = t :: permL is (w :: v :: u :: t :: ws) := rfl
theorem rd_0 (as : List Ag) (m : Addr) (Q' : Rs → List (List PyData) → Prop) (r : Rs) (δ : DSt) (h : bix as = none) : dRet as m Q' r δ = Q' r [] := by unfold dRet; rw [h]
theorem bx_nil : bix [] = none := rfl
theorem bx_d (x : PyData) (as : List Ag) : bix (.d x :: as) = (bix as).map (· + 1) := by rw [bix]; cases bix as <;> rfl
theorem bx_o (x : List PyData) (as : List Ag) : bix (.o x :: as) = some 0 := rfl
theorem rd_o (x : List PyData) (as : List Ag) (m : Addr) (Q' : Rs → List (List PyData) → Prop) (r : Rs) (y : List PyData) (δ : DSt) : dRet (.o x :: as) m Q' r (.o (some m) y :: δ) = Q' r [y] := propext ⟨fun ⟨y', e, q⟩ => by cases e; exact q, fun q => ⟨y, rfl, q⟩⟩
theorem kd_un : Sl.keepD .un = .un := rfl
theorem kd_d (x : PyData) : Sl.keepD (.d x) = .d x := rfl
theorem sa_nil (rs : List Rs) (δ : DSt) : setAll [] rs δ = δ := by cases rs <;> rfl
theorem sa_cons (i : Nat) (is : List Nat) (r : Rs) (rs : List Rs) (δ : DSt) : setAll (i :: is) (r :: rs) δ = setAll is rs (ss δ i r.sl) := rfl
theorem wp_nil (δ : DSt) : wipeD δ [] = δ := rfl
theorem wp_cons (δ : DSt) (v : Nat) (vs : List Nat) : wipeD δ (v :: vs) = ss (wipeD δ vs) v .un := rfl
theorem rs_nil (δ δ' : DSt) : restD δ δ' [] = δ' := rfl
theorem rs_cons (δ δ' : DSt) (v : Nat) (vs : List Nat) : restD δ δ' (v :: vs) = ss (restD δ δ' vs) v (gs δ v).keepD := rfl
theorem dT {p : Prop} [Decidable p] (h : p) : decide p = true := decide_eq_true h
theorem dF {p : Prop} [Decidable p] (h : ¬ p) : decide p = false := decide_eq_false h
end DL

namespace DL
open PySem L2 RZ
/-! ## 18. A new list goes to a def that changes it -/
section
variable {X : Cx} {E : XS} {e : Expr} {pos p : Pos} {te : TD} {CX : CXT} {k : Nat} {ps : List Str} {S : DSp} {x : Str} {st : Stmt}
def kDat (Q : Rs → DSt → Prop) (δ : DSt) : Rs → List (List PyData) → Prop := fun r _ => match r with
  | .d x => Q (.d x) δ
  | _ => False
def kNew (S : DSp) (Q : Rs → DSt → Prop) : Rs → DSt → Prop := fun r δ1 => match r with
  | .f xs => S [.o xs] (fun _ _ => False) (kDat Q δ1)
  | _ => False
def dCallF (S : DSp) (te : TD) : TD := fun δ R Q => te δ R (kNew S Q)
theorem ev_callF (S : DSp) (te : TD) (δ : DSt) (R : RX) (Q) : dCallF S te δ R Q = te δ R (kNew S Q) := rfl
theorem ev_knew (S : DSp) (Q xs δ) : kNew S Q (.f xs) δ = S [.o xs] (fun _ _ => False) (kDat Q δ) := rfl
theorem ev_kdat (Q x ys) (δ : DSt) : kDat Q δ (.d x) ys = Q (.d x) δ := rfl
theorem de_callF (G : Cal X.prog X.w X.K X.mg X.base CX k x st ps 1 S) (hr : RoomG k X.A) (hg : Gl X x) (hx : ∀ σ, PassesAt CX X σ (E σ))
    (he : DE X E e te) (hdb : (x == ("__debug__" : Str)) = false := by decide) (hs : starEach (e :: []) X.env = (false, eval e X.env) :: starEach [] X.env := by rfl) (hpl : (backTo pos (starEach [] X.env)).any (·.1) = false := by rfl) :
    DE X E (.Call (.Name x p) [e] [] pos) (dCallF S te) := by
  obtain ⟨⟨f, fd, F, hm, ok⟩, bnd⟩ := G
  obtain ⟨t, pt, q⟩ := he.ex
  refine ⟨_, pe_callG ok hr hg hm F.kp (F.binds fun kV doc pm an cdv ct us hl => bnd kV doc pm an cdv ct us hl) hx (pa_cons pt pa_nil hs) hdb hs hpl, fun δ σ O P H R Q' Q I w h kk => ?_⟩
  refine q δ σ O P H R _ _ I w h fun r v δ1 O1' H1 g s1 h1 => ?_
  cases r with
  | d x => exact h1.elim
  | p _ _ => exact h1.elim
  | f xs =>
    obtain ⟨a, ws, O1, rfl, rfl, n1, n2, R1, R2, hp, da⟩ := g
    refine ⟨[.o xs], [a], O1 ++ P, kDat Q' δ1, _, rfl, Nat.le_refl _, ⟨rfl, ⟨ws, hp, da⟩, trivial⟩, fun b m => R2.trk b m, fun b m z => ?_, h1, fun r v ys H' ret sp q' => ?_, fun _ _ _ _ _ _ z => z.elim⟩
    · simp only [List.mem_singleton] at m
      rw [m] at z
      rcases List.mem_append.mp z with z | z
      · exact n1 z
      · exact n2 z
    · cases r with
      | f _ => exact q'.elim
      | p _ _ => exact q'.elim
      | d y =>
        obtain ⟨d1, _⟩ := ret
        have sub : ∀ b ∈ [a], b ∈ a :: O1 := fun b m => by simp only [List.mem_singleton] at m; rw [m]; exact List.mem_cons_self
        have hle : Le (frz ((a :: O1) ++ P) H1) (frz ((a :: O1) ++ P) H') := back_le [a] sub sp fun b m => .inl m
        have R3 : Rel δ1 σ (a :: O1) P H' := by
          refine ⟨R2.len, fun i x e => ?_, fun i m ys e => ?_, R2.inj, fun b m => sp.there b (R2.trk b m), R2.dis⟩
          · obtain ⟨v, k1, k2⟩ := R2.dat i x e
            exact ⟨v, k1, dp_le hle _ _ k2⟩
          · obtain ⟨b, us, k1, k2, k3, k4, k5⟩ := R2.own i m ys e
            obtain ⟨b', us', j1, j2, j3, _⟩ := R1.own i m ys e
            rw [k1] at j1; cases j1
            have nb : b ≠ a := fun z => n1 (by rw [← z]; exact j3)
            exact ⟨b, us, k1, k2, k3, (sp.keep b _ k4 (by simpa using nb)).1, dpa_le hle _ _ k5⟩
        have s3 : Stp (a :: O1) H1 (a :: O1) H' := ⟨fun b o h n => ⟨(sp.keep b o h fun z => n (sub b z)).1, n⟩, sp.there⟩
        exact kk (.d y) v δ1 (a :: O1) H' ⟨R3, d1⟩ (s1.trans s3) q'
end
end DL

namespace DL
open PySem L2 RZ
/-! ## 19. Comprehensions with two fors -/
theorem wipe_sub {σ : L2.St} {vs vs1 : List Nat} (hv : ∀ i ∈ vs1, i ∈ vs) : wipe (wipe σ vs1) vs = wipe σ vs := by
  refine List.ext_getElem? fun i => ?_
  by_cases h : i ∈ vs
  · have one : ∀ (τ : L2.St) (ws : List Nat), i ∈ ws → (wipe τ ws)[i]? = if i < τ.length then some none else none := fun τ ws => by
      induction ws with
      | nil => intro h; cases h
      | cons w ws ih =>
        intro h
        rw [wipe]
        by_cases hw : w = i
        · subst hw
          by_cases hl : w < (wipe τ ws).length
          · rw [List.getElem?_set_self hl, if_pos (by rwa [wipe_length] at hl)]
          · rw [List.getElem?_eq_none (by simpa using hl), if_neg (by rwa [wipe_length] at hl)]
        · rw [List.getElem?_set_ne hw]
          exact ih ((List.mem_cons.mp h).resolve_left fun z => hw z.symm)
    rw [one _ _ h, one _ _ h, wipe_length]
  · rw [wipe_get h, wipe_get h, wipe_get fun z => h (hv i z)]
theorem wipeD_sub {σ : DSt} {vs vs1 : List Nat} (hv : ∀ i ∈ vs1, i ∈ vs) : wipeD (wipeD σ vs1) vs = wipeD σ vs := by
  refine List.ext_getElem? fun i => ?_
  by_cases h : i ∈ vs
  · have one : ∀ (τ : DSt) (ws : List Nat), i ∈ ws → (wipeD τ ws)[i]? = if i < τ.length then some .un else none := fun τ ws => by
      induction ws with
      | nil => intro h; cases h
      | cons w ws ih =>
        intro h
        rw [wipeD, ss_eq]
        by_cases hw : w = i
        · subst hw
          by_cases hl : w < (wipeD τ ws).length
          · rw [List.getElem?_set_self hl, if_pos (by rwa [wipeD_length] at hl)]
          · rw [List.getElem?_eq_none (by simpa using hl), if_neg (by rwa [wipeD_length] at hl)]
        · rw [List.getElem?_set_ne hw]
          exact ih ((List.mem_cons.mp h).resolve_left fun z => hw z.symm)
    rw [one _ _ h, one _ _ h, wipeD_length]
  · rw [wipeD_get h, wipeD_get h, wipeD_get fun z => h (hv i z)]
def compD2 (vs vs1 : List Nat) (g : TGd) (tt : TTd) (ti1 : TDs) (g1 : TGd) (tt1 : TTd) (te : TD) : List PyData → List PyData → DSt → (List PyData → DSt → Prop) → Prop
  | [], acc, δ, Q => Q acc δ
  | x :: xs, acc, δ, Q => g x (wipeD δ vs) fun δ1 => tt δ1 noR fun b δ2 => if b = true then ti1 δ2 noR fun ys δ3 => compD vs1 g1 tt1 te ys acc δ3 fun acc' δ4 => compD2 vs vs1 g tt ti1 g1 tt1 te xs acc' δ4 Q else compD2 vs vs1 g tt ti1 g1 tt1 te xs acc δ2 Q
def dComp2 (vs vs1 : List Nat) (ti : TDs) (g : TGd) (tt : TTd) (ti1 : TDs) (g1 : TGd) (tt1 : TTd) (te : TD) : TD := fun δ R Q => ti δ R fun xs δ1 => compD2 vs vs1 g tt ti1 g1 tt1 te xs [] δ1 fun acc δ2 => Q (.f acc) (restD δ1 δ2 vs)
section
variable {X : Cx} {E : XS} {elt tg iter tg1 iter1 : Expr} {ifs ifs1 : List Expr} {scope : Scope} {own : List (Str × Nat)} {pos : Pos} {ti ti1 : TDs} {g g1 : TGd} {tt tt1 : TTd} {te : TD} {vs vs1 : List Nat}
def wkI (X : Cx) (scope : Scope) (tg iter : Expr) : TI := fun σ H Q => ∀ (s0 : Shared) (H0 : Hp) (C : Addr) (cl : List (Str × Addr)) (fp : List Addr), ∃ wi, PI (X.blk s0 H0 scope (compEnvC scope cl C X.env) fp) tg iter wi ∧ wi σ H Q
theorem pi_wk (hi1 : ∀ (s : Shared) (H : Hp) (C : Addr) (cl : List (Str × Addr)) (fp : List Addr), DI (X.blk s H scope (compEnvC scope cl C X.env) fp) E0s tg1 iter1 ti1) (s : Shared) (H : Hp) (C : Addr) (cl : List (Str × Addr)) (fp : List Addr) : PI (X.blk s H scope (compEnvC scope cl C X.env) fp) tg1 iter1 (wkI X scope tg1 iter1) :=
  ⟨fun pins s' σ H' R I h => by
    obtain ⟨wi, p, q⟩ := h s H C cl fp
    exact p.run pins s' σ H' R I q⟩
theorem de_lc2_core (hv : ∀ i ∈ vs1, i ∈ vs) (hi : DI X E tg iter ti) (hg : ∀ (s : Shared) (H : Hp) (C : Addr) (cl : List (Str × Addr)) (fp : List Addr), DG (X.blk s H scope (compEnvC scope cl C X.env) fp) vs tg g)
    (ht : ∀ (s : Shared) (H : Hp) (C : Addr) (cl : List (Str × Addr)) (fp : List Addr), DTs (X.blk s H scope (compEnvC scope cl C X.env) fp) ifs tt)
    (hi1 : ∀ (s : Shared) (H : Hp) (C : Addr) (cl : List (Str × Addr)) (fp : List Addr), DI (X.blk s H scope (compEnvC scope cl C X.env) fp) E0s tg1 iter1 ti1)
    (hg1 : ∀ (s : Shared) (H : Hp) (C : Addr) (cl : List (Str × Addr)) (fp : List Addr), DG (X.blk s H scope (compEnvC scope cl C X.env) fp) vs1 tg1 g1)
    (ht1 : ∀ (s : Shared) (H : Hp) (C : Addr) (cl : List (Str × Addr)) (fp : List Addr), DTs (X.blk s H scope (compEnvC scope cl C X.env) fp) ifs1 tt1)
    (he : ∀ (s : Shared) (H : Hp) (C : Addr) (cl : List (Str × Addr)) (fp : List Addr), DE (X.blk s H scope (compEnvC scope cl C X.env) fp) E0s elt te) :
    ∃ wi, PI X tg iter wi ∧ ∀ (δ : DSt) (σ : L2.St) (O P : List Addr) (H : Hp) (R : RX) (Q' : Rs → DSt → Prop) (Q : VK), Rel δ σ O P H → ExW E O P H R → dComp2 vs vs1 ti g tt ti1 g1 tt1 te δ R Q' →
      (∀ r v δ' O' H', Got r v δ' σ O' P H' → Stp O H O' H' → Q' r δ' → Q v H') → tLc2 wi (wkG X scope tg) (wkT X scope ifs) (wkI X scope tg1 iter1) (wkG X scope tg1) (wkT X scope ifs1) (wkE X scope elt) vs vs1 σ H Q := by
  obtain ⟨wi, pi, qi⟩ := hi.ex
  refine ⟨wi, pi, fun δ σ O P H R Q' Q I w h k => ?_⟩
  refine qi δ σ O P H R _ _ I w h fun J xs δ1 O1 H1 R1 s1 it h1 => ?_
  intro D nD
  have nOP := R1.fresh nD
  simp only [List.mem_append, not_or] at nOP
  refine ⟨fun i m Hc => ∃ (δc : DSt) (acc : List PyData) (accV : List V) (Oc : List Addr), m = xs.length - i ∧ i ≤ xs.length ∧ Rel (wipeD δc vs) (wipe σ vs) Oc (D :: P) Hc ∧ Stp O1 H1 Oc Hc ∧ Hc D = some (.lst accV) ∧ DqAll (frz (Oc ++ (D :: P)) Hc) accV acc ∧
    compD2 vs vs1 g tt ti1 g1 tt1 te (xs.drop i) acc δc fun acc δ2 => Q' (.f acc) (restD δ1 δ2 vs), ⟨xs.length, δ1, [], [], O1, rfl, Nat.zero_le _, (R1.wiped vs).newp nD, .newd nD, upd_same, .nil, h1⟩, ?_⟩
  rintro i m Hc ⟨δc, acc, accV, Oc, rfl, hi', Rc, sc, hD, da, hc⟩
  have nDO : D ∉ Oc := fun z => Rc.dis D z (by simp)
  have sc' : Stp O1 H1 (D :: Oc) Hc := ⟨fun a o h n => ⟨(sc.keep a o h n).1, fun z => by
    rcases List.mem_cons.mp z with z | z
    · rw [z, nD] at h; cases h
    · exact (sc.keep a o h n).2 z⟩, sc.there⟩
  have trkc : ∀ a, a ∈ (D :: Oc) ++ P → Hc a ≠ none := fun a m => Rc.trk a (memPO a |>.mp m)
  by_cases hlt : i < xs.length
  · have hx : xs[i]? = some xs[i] := List.getElem?_eq_getElem hlt
    rw [List.drop_eq_getElem_cons hlt] at hc
    have hgo := (it (D :: Oc) Hc sc'.le trkc i).1 _ hx
    refine .inr ⟨hgo.1, (fun H' => ∃ (δc : DSt) (acc : List PyData) (accV : List V) (Oc : List Addr), Rel (wipeD δc vs) (wipe σ vs) Oc (D :: P) H' ∧ Stp O1 H1 Oc H' ∧ H' D = some (.lst accV) ∧ DqAll (frz (Oc ++ (D :: P)) H') accV acc ∧
        compD2 vs vs1 g tt ti1 g1 tt1 te (xs.drop (i + 1)) acc δc fun acc δ2 => Q' (.f acc) (restD δ1 δ2 vs)), fun H' n => ?_, fun x H' y => ?_⟩
    · obtain ⟨δc, acc, accV, Oc, q1, q2, q3, q4, q5⟩ := n
      exact ⟨xs.length - (i + 1), by omega, δc, acc, accV, Oc, rfl, hlt, q1, q2, q3, q4, q5⟩
    · obtain ⟨dx, hH⟩ := hgo.2 x H' y
      rw [frzPO] at dx
      have Rn : Rel (wipeD δc vs) (wipe σ vs) Oc (D :: P) H' ∧ Stp Oc Hc Oc H' := by
        rcases hH with rfl | ⟨T, o, nT, rfl⟩
        · exact ⟨Rc, .refl⟩
        · exact ⟨Rc.newd nT, .newd nT⟩
      obtain ⟨Rn, sn⟩ := Rn
      have sn1 := sc.trans sn
      have hDn := (sn.keep D _ hD nDO).1
      have dan := sn.dpa da
      intro s0 H0 C cl fp pins s u I2 r2
      obtain ⟨tg', pg, qg⟩ := (hg s0 H0 C cl fp).ex
      refine pg.run pins s (wipe σ vs) H' x u _ I2 r2 (qg _ x _ _ Oc (D :: P) H' _ _ Rn dx hc fun δ2 σ2 O2 H2 R2 s2 w2 h2 => ⟨(w2 vs fun _ z => z).trans wipe_wipe, ?_⟩)
      have e2 : wipe σ2 vs = wipe σ vs := (w2 vs fun _ z => z).trans wipe_wipe
      have hD2 := s2.keep D _ hDn nDO
      have da2 := s2.dpa dan
      intro s0 H0 C cl fp pins s I3
      obtain ⟨tt', pt, qt⟩ := (ht s0 H0 C cl fp).ex
      refine pt.run pins s σ2 H2 _ I3 (qt δ2 σ2 O2 (D :: P) H2 _ _ R2 h2 fun b δ3 O3 H3 R3 s3 h3 => ?_)
      have hD3 := s3.keep D _ hD2.1 hD2.2
      have da3 := s3.dpa da2
      have st3 := (sn1.trans s2).trans s3
      cases b with
      | false =>
        refine iteF ⟨δ3, acc, accV, O3, by rw [← e2]; exact R3.wiped vs, st3, hD3.1, da3, h3⟩
      | true =>
        refine iteT ?_
        intro s0 H0 C cl fp
        obtain ⟨wi1, pi1, qi1⟩ := (hi1 s0 H0 C cl fp).ex
        refine ⟨wi1, pi1, qi1 δ3 σ2 O3 (D :: P) H3 noR _ _ R3 .no h3 fun J1 ys δ4 O4 H4 R4 s4 it1 h4 => ?_⟩
        have hD4 := s4.keep D _ hD3.1 hD3.2
        have da4 := s4.dpa da3
        have st4 := st3.trans s4
        refine ⟨fun j k Hj => ∃ (δj : DSt) (accj : List PyData) (accVj : List V) (Oj : List Addr), k = ys.length - j ∧ j ≤ ys.length ∧ Rel (wipeD δj vs1) (wipe σ2 vs1) Oj (D :: P) Hj ∧ Stp O1 H1 Oj Hj ∧ Le (frz (O4 ++ (D :: P)) H4) (frz (Oj ++ (D :: P)) Hj) ∧ Hj D = some (.lst accVj) ∧ DqAll (frz (Oj ++ (D :: P)) Hj) accVj accj ∧
          compD vs1 g1 tt1 te (ys.drop j) accj δj fun acc' δ4 => compD2 vs vs1 g tt ti1 g1 tt1 te (xs.drop (i + 1)) acc' δ4 fun acc δ2 => Q' (.f acc) (restD δ1 δ2 vs), ⟨ys.length, δ4, acc, accV, O4, rfl, Nat.zero_le _, R4.wiped vs1, st4, Le.refl _, hD4.1, da4, h4⟩, ?_⟩
        rintro j k' Hj ⟨δj, accj, accVj, Oj, rfl, hj, Rj, sj, lej, hDj, daj, hcj⟩
        have nDOj : D ∉ Oj := fun z => Rj.dis D z (by simp)
        by_cases hltj : j < ys.length
        · have hy : ys[j]? = some ys[j] := List.getElem?_eq_getElem hltj
          rw [List.drop_eq_getElem_cons hltj] at hcj
          have hgoj := (it1 Oj Hj lej Rj.trk j).1 _ hy
          refine .inr ⟨hgoj.1, (fun H' => ∃ (δj : DSt) (accj : List PyData) (accVj : List V) (Oj : List Addr), Rel (wipeD δj vs1) (wipe σ2 vs1) Oj (D :: P) H' ∧ Stp O1 H1 Oj H' ∧ Le (frz (O4 ++ (D :: P)) H4) (frz (Oj ++ (D :: P)) H') ∧ H' D = some (.lst accVj) ∧ DqAll (frz (Oj ++ (D :: P)) H') accVj accj ∧
              compD vs1 g1 tt1 te (ys.drop (j + 1)) accj δj fun acc' δ4 => compD2 vs vs1 g tt ti1 g1 tt1 te (xs.drop (i + 1)) acc' δ4 fun acc δ2 => Q' (.f acc) (restD δ1 δ2 vs)), fun H' n => ?_, fun z H' yy => ?_⟩
          · obtain ⟨δj, accj, accVj, Oj, q1, q2, q3, q4, q5, q6⟩ := n
            exact ⟨ys.length - (j + 1), by omega, δj, accj, accVj, Oj, rfl, hltj, q1, q2, q3, q4, q5, q6⟩
          · obtain ⟨dz, hH⟩ := hgoj.2 z H' yy
            have Rn : Rel (wipeD δj vs1) (wipe σ2 vs1) Oj (D :: P) H' ∧ Stp Oj Hj Oj H' := by
              rcases hH with rfl | ⟨T, o, nT, rfl⟩
              · exact ⟨Rj, .refl⟩
              · exact ⟨Rj.newd nT, .newd nT⟩
            obtain ⟨Rn, sn⟩ := Rn
            have sjn := sj.trans sn
            have ljn := lej.trans sn.le
            have hDn := (sn.keep D _ hDj nDOj).1
            have dan := sn.dpa daj
            intro s0 H0 C cl fp pins s u I2 r2
            obtain ⟨tg', pg, qg⟩ := (hg1 s0 H0 C cl fp).ex
            refine pg.run pins s (wipe σ2 vs1) H' z u _ I2 r2 (qg _ z _ _ Oj (D :: P) H' _ _ Rn dz hcj fun δ5 σ5 O5 H5 R5 s5 w5 h5 => ⟨(w5 vs1 fun _ z => z).trans wipe_wipe, ?_⟩)
            have e5 : wipe σ5 vs1 = wipe σ2 vs1 := (w5 vs1 fun _ z => z).trans wipe_wipe
            have hD5 := s5.keep D _ hDn nDOj
            have da5 := s5.dpa dan
            intro s0 H0 C cl fp pins s I3
            obtain ⟨tt', pt, qt⟩ := (ht1 s0 H0 C cl fp).ex
            refine pt.run pins s σ5 H5 _ I3 (qt δ5 σ5 O5 (D :: P) H5 _ _ R5 h5 fun b δ6 O6 H6 R6 s6 h6 => ?_)
            have hD6 := s6.keep D _ hD5.1 hD5.2
            have da6 := s6.dpa da5
            have st6 := (sjn.trans s5).trans s6
            have l6 := (ljn.trans s5.le).trans s6.le
            cases b with
            | false =>
              refine iteF ⟨δ6, accj, accVj, O6, by rw [← e5]; exact R6.wiped vs1, st6, l6, hD6.1, da6, h6⟩
            | true =>
              refine iteT ?_
              intro s0 H0 C cl fp pins s I4
              obtain ⟨te', pe, qe⟩ := (he s0 H0 C cl fp).ex
              refine pe.run pins s σ5 H6 _ I4 (qe δ6 σ5 O6 (D :: P) H6 noR _ _ R6 .no h6 fun r v δ7 O7 H7 g7 s7 h7 => ?_)
              obtain ⟨O8, R8, d8, s8⟩ := g7.share s7
              have hD8 := s8.keep D _ hD6.1 hD6.2
              have da8 := s8.dpa da6
              have st8 := st6.trans s8
              refine ⟨accVj, hD8.1, by rw [dpa_len da8]; exact h7.1, δ7, accj ++ [r.val], accVj ++ [v], O8, by rw [← e5]; exact (R8.wiped vs1).updp, ⟨fun a o ha n => ?_, fun a ha => ?_⟩, by rw [frz_updP]; exact l6.trans s8.le, upd_same, by rw [frz_updP]; exact dpa_append da8 (dpa_one d8), h7.2⟩
              · have q := st8.keep a o ha n
                exact ⟨by rw [upd_ne (fun z => by rw [z, nD] at ha; cases ha)]; exact q.1, q.2⟩
              · by_cases z : a = D
                · rw [z, nD] at ha; exact (ha rfl).elim
                · rw [upd_ne z]; exact st8.there a ha
        · have e : j = ys.length := by omega
          subst e
          rw [List.drop_length] at hcj
          have hst := (it1 Oj Hj lej Rj.trk ys.length).2 rfl
          refine .inl ⟨hst, δj, accj, accVj, Oj, ?_, sj, hDj, daj, hcj⟩
          have := Rj.wiped vs
          rw [wipeD_sub hv, wipe_sub hv, e2] at this
          exact this
  · have e : i = xs.length := by omega
    subst e
    rw [List.drop_length] at hc
    have hst := (it (D :: Oc) Hc sc'.le trkc xs.length).2 rfl
    refine .inl ⟨hst, ?_⟩
    have Rr : Rel (restD δ1 δc vs) σ Oc (D :: P) Hc := Rc.rested fun j y _ gy => by
      obtain ⟨v, q1, q2⟩ := R1.dat j y (gs_d gy)
      refine ⟨v, q1, ?_⟩
      have q3 := sc'.dp q2
      rw [frzPO] at q3
      exact q3
    have nP : D ∉ P := nOP.2
    refine k (.f acc) _ _ (D :: Oc) Hc ⟨D, accV, Oc, rfl, rfl, nDO, nP, Rr.dropp, Rr.ptoo nP, hD, by rw [frzPO]; exact da⟩ (s1.trans sc') hc
theorem de_lc2 (hc : X.calm = true) (hN : X.N.Nodup) (ok : BlkOk X.N X.env.scope scope own) (hv : ∀ i ∈ vs1, i ∈ own.map (·.2)) (hi : DI X E tg iter ti) (hg : ∀ (s : Shared) (H : Hp) (C : Addr) (cl : List (Str × Addr)) (fp : List Addr), DG (X.blk s H scope (compEnvC scope cl C X.env) fp) (own.map (·.2)) tg g)
    (ht : ∀ (s : Shared) (H : Hp) (C : Addr) (cl : List (Str × Addr)) (fp : List Addr), DTs (X.blk s H scope (compEnvC scope cl C X.env) fp) ifs tt)
    (hi1 : ∀ (s : Shared) (H : Hp) (C : Addr) (cl : List (Str × Addr)) (fp : List Addr), DI (X.blk s H scope (compEnvC scope cl C X.env) fp) E0s tg1 iter1 ti1)
    (hg1 : ∀ (s : Shared) (H : Hp) (C : Addr) (cl : List (Str × Addr)) (fp : List Addr), DG (X.blk s H scope (compEnvC scope cl C X.env) fp) vs1 tg1 g1)
    (ht1 : ∀ (s : Shared) (H : Hp) (C : Addr) (cl : List (Str × Addr)) (fp : List Addr), DTs (X.blk s H scope (compEnvC scope cl C X.env) fp) ifs1 tt1)
    (he : ∀ (s : Shared) (H : Hp) (C : Addr) (cl : List (Str × Addr)) (fp : List Addr), DE (X.blk s H scope (compEnvC scope cl C X.env) fp) E0s elt te) (hs : ∀ x, foldedSetIterable iter X.env x = pure x := by intro _; rfl) (hs1 : ∀ env x, foldedSetIterable iter1 env x = pure x := by intro _ _; rfl) :
    DE X E (.ListComp elt [⟨tg, iter, ifs, 0⟩, ⟨tg1, iter1, ifs1, 0⟩] scope pos) (dComp2 (own.map (·.2)) vs1 ti g tt ti1 g1 tt1 te) := by
  obtain ⟨wi, pi, q⟩ := de_lc2_core hv hi hg ht hi1 hg1 ht1 he
  exact ⟨_, pe_lc2 hc hN pi ok hv (fun s H C cl fp => ⟨fun pins s σ H v u Q I r h => h _ _ _ _ _ pins s u I r⟩) (fun s H C cl fp => ⟨fun pins s σ H Q I h => h _ _ _ _ _ pins s I⟩) (pi_wk hi1) (fun s H C cl fp => ⟨fun pins s σ H v u Q I r h => h _ _ _ _ _ pins s u I r⟩) (fun s H C cl fp => ⟨fun pins s σ H Q I h => h _ _ _ _ _ pins s I⟩) (fun s H C cl fp => ⟨fun pins s σ H Q I h => h _ _ _ _ _ pins s I⟩) hs hs1, q⟩
end
end DL

namespace DL
open PySem L2 RZ
/-! ## 20. A call that only looks: lists that slots hold alone stay theirs -/
theorem frz_nil0 (H : Hp) : frz ([] ++ []) H = H := by
  funext a
  unfold frz
  simp
def scal : PyData → Bool
  | .none => true
  | .bool _ => true
  | .int _ => true
  | .str _ => true
  | _ => false
theorem scal_dq {H H' : Hp} {v : V} {x : PyData} (h : Dq H v x) (s : scal x = true) : Dq H' v x := by
  cases h <;> first | (exfalso; exact Bool.noConfusion s) | constructor
def kScal (Q : Rs → DSt → Prop) (δ : DSt) : Rs → List (List PyData) → Prop := fun r _ => match r with
  | .d x => scal x = true ∧ Q (.d x) δ
  | _ => False
def kPeek2 (n : Nat) (S : DSp) (Q : Rs → DSt → Prop) (δ : DSt) : List PyData → Prop := fun xs => xs.length = n ∧ S (xs.map .d) (fun _ _ => False) (kScal Q δ)
def kPeek (n : Nat) (S : DSp) (Q : Rs → DSt → Prop) : List Opd → DSt → Prop := fun os δ1 => withL (resAll os δ1) (kPeek2 n S Q δ1)
def dCallP (n : Nat) (S : DSp) (ta : TAd) : TD := fun δ R Q => ta δ R (kPeek n S Q)
theorem ev_callP (n S ta) (δ : DSt) (R : RX) (Q) : dCallP n S ta δ R Q = ta δ R (kPeek n S Q) := rfl
theorem ev_peek (n S Q os) (δ : DSt) : kPeek n S Q os δ = withL (resAll os δ) (kPeek2 n S Q δ) := rfl
theorem ev_peek2 (n S Q xs) (δ : DSt) : kPeek2 n S Q δ xs = (xs.length = n ∧ S (xs.map .d) (fun _ _ => False) (kScal Q δ)) := rfl
theorem ev_scal (Q x ys) (δ : DSt) : kScal Q δ (.d x) ys = (scal x = true ∧ Q (.d x) δ) := rfl
theorem ag_full {Z : List Addr} {H : Hp} : ∀ {vs : List V} {xs : List PyData}, Paired (fun v x => Lq Z H v x) vs xs → AgRel ([] ++ []) H (xs.map .d) vs []
  | _, _, .nil => trivial
  | _, _, .cons h hs => ⟨by rw [frz_nil0]; exact h.full, ag_full hs⟩
section
variable {X : Cx} {E : XS} {e : Expr} {es : List Expr} {pos p : Pos} {ta : TAd} {CX : CXT} {k n : Nat} {ps : List Str} {S : DSp} {x : Str} {st : Stmt}
theorem de_callP (G : Cal X.prog X.w X.K X.mg X.base CX k x st ps n S) (hr : RoomG k X.A) (hg : Gl X x) (hx : ∀ σ, PassesAt CX X σ (E σ))
    (ha : DAs X E (e :: es) ta) (hdb : (x == ("__debug__" : Str)) = false := by decide) (he : starEach (e :: es) X.env = (false, eval e X.env) :: starEach es X.env := by rfl) (hpl : (backTo pos (starEach es X.env)).any (·.1) = false := by rfl) :
    DE X E (.Call (.Name x p) (e :: es) [] pos) (dCallP n S ta) := by
  obtain ⟨⟨f, fd, F, hm, ok⟩, bnd⟩ := G
  obtain ⟨t, pt, q⟩ := ha.ex
  refine ⟨_, pe_callG ok hr hg hm F.kp (F.binds fun kV doc pm an cdv ct us hl => bnd kV doc pm an cdv ct us hl) hx pt hdb he hpl, fun δ σ O P H R Q' Q I w h kk => ?_⟩
  refine q δ σ O P H R _ _ I w h fun os vs δ1 O1 H1 R1 a1 s1 h1 => ?_
  unfold kPeek withL at h1
  split at h1
  · rename_i xs e1
    obtain ⟨hl, h1⟩ := h1
    have pl := a1.lq R1 e1
    refine ⟨xs.map .d, [], [], kScal Q' δ1, _, by rw [List.length_map]; exact hl, Nat.zero_le _, ag_full pl, (fun _ m => (List.not_mem_nil m).elim), (fun _ m => (List.not_mem_nil m).elim), h1, fun r v ys H' ret sp q' => ?_, fun _ _ _ _ _ _ z => z.elim⟩
    cases r with
    | f _ => exact q'.elim
    | p _ _ => exact q'.elim
    | d y =>
      obtain ⟨d1, _⟩ := ret
      have R2 : Rel δ1 σ O1 P H' := R1.back0 sp (fun _ z => z) (fun _ z => .inl z) (fun a z => sp.there a (R1.trk a (List.mem_append_left _ z))) R1.dis
      have s2 : Stp O1 H1 O1 H' := ⟨fun a o h n => ⟨(sp.keep a o h (by simp)).1, n⟩, sp.there⟩
      exact kk (.d y) v δ1 O1 H' ⟨R2, scal_dq d1 q'.1⟩ (s1.trans s2) q'.2
  · exact h1.elim
end
/-! ## 21. sorted(xs), pairs of ints that ascend already -/
def pairD (p : Int × Int) : PyData := .tuple [.int p.1, .int p.2]
def rSortedQ (K : PySem.W.Frag) : List V → Hp → VK → Prop := fun vs H Q => ∃ (a : Addr) (xs : List V) (k : V → Int × Int), vs = [V.ref a] ∧ SqL K H a xs ∧ (∀ x ∈ xs, ∃ t, x = V.ref t ∧ Rd H t (.tup [.int (k x).1, .int (k x).2])) ∧
  ∀ ys p, SrtO.Srtd (ltP k) ys → SrtO.Stb (ltP k) ys xs → H p = none → Q (.ref p) (upd H p (.lst ys))
theorem cr_sortedQ {X : Cx} : CallR X (.builtin "sorted") (rSortedQ X.K) := by
  intro pins s σ H vs us Q I r h
  obtain ⟨a, xs, k, rfl, hs, hx, q⟩ := h
  obtain ⟨its, rv, hl, hz⟩ := I.list hs
  obtain ⟨u, rfl, ru⟩ := vals1 r
  obtain rfl : u = Value.ref a := ru
  obtain ⟨e1, e2⟩ := refs_back rv fun x m => by
    obtain ⟨t, e, _⟩ := hx x m
    exact ⟨t, e⟩
  refine SrtO.sorted_pairsO (k := fun u => k (backV u)) hl.isList (by rw [← rv.length]; exact hz) (fun v hv => ?_) fun h' d out h1 h2 kp hd hn => ?_
  · obtain ⟨t, rfl⟩ := e2 v hv
    have hm : V.ref t ∈ xs := by rw [e1]; exact List.mem_map.mpr ⟨_, hv, rfl⟩
    obtain ⟨t', e, ht⟩ := hx _ hm
    cases e
    obtain ⟨its2, r2, ⟨o, ho, hc, n, hd⟩, _⟩ := I.tuple (.inl ht : SqT X.K H t _)
    obtain ⟨u1, u2, rfl, ri, rj⟩ := vals2 r2
    obtain ⟨t1, rfl⟩ := ri
    obtain ⟨t2, rfl⟩ := rj
    exact ⟨t, o, t1, t2, n, rfl, ho, hc, hd⟩
  · have h3 : ∀ u ∈ out, ∃ a, u = Value.ref a := fun u hu => e2 u (h2.perm.mem_iff.mp hu)
    obtain ⟨n, hn⟩ := hn
    have hb : SrtO.Stb (ltP k) (out.map backV) xs := by
      rw [e1]
      exact SrtO.Stb.map (ltP_swo k) backV h2
    refine ⟨.ref d, upd H d (.lst (out.map backV)), I.laid (t' := s.toks) kp hd ⟨?_, out, n, vals_back h3, hn⟩, rfl, q _ d (SrtO.srtd_map h1) hb (I.hok.fresh hd)⟩
    rw [hb.len]
    exact hz
def lexLt (p q : Int × Int) : Prop := p.1 < q.1 ∨ (p.1 = q.1 ∧ p.2 < q.2)
def sortK : KC := fun xs k => match xs with
  | [.list ys] => ∃ ps : List (Int × Int), ys = ps.map pairD ∧ ps.Pairwise lexLt ∧ k (.f ys)
  | _ => False
theorem dq_pairInv {H : Hp} {v : V} {p : Int × Int} (h : Dq H v (pairD p)) : ∃ t, v = .ref t ∧ Rd H t (.tup [.int p.1, .int p.2]) := by
  cases h with
  | tup h1 h2 =>
    obtain _ | ⟨a, h2⟩ := h2
    obtain _ | ⟨b, h2⟩ := h2
    cases h2
    cases a; cases b
    exact ⟨_, rfl, h1⟩
open Classical in
noncomputable def keyV (H : Hp) (v : V) : Int × Int := if h : ∃ p : Int × Int, Dq H v (pairD p) then h.choose else (0, 0)
theorem keyV_eq {H : Hp} {v : V} {p : Int × Int} (h : Dq H v (pairD p)) : keyV H v = p := by
  have hx : ∃ p : Int × Int, Dq H v (pairD p) := ⟨p, h⟩
  unfold keyV
  rw [dif_pos hx]
  obtain ⟨t, e, r⟩ := dq_pairInv h
  obtain ⟨t', e', r'⟩ := dq_pairInv hx.choose_spec
  rw [e] at e'; cases e'
  have := itt_inj r r'
  simp only [List.cons.injEq, V.int.injEq, and_true] at this
  exact Prod.ext this.1.symm this.2.symm
theorem keys_map {H : Hp} : ∀ {vs : List V} {ps : List (Int × Int)}, DqAll H vs (ps.map pairD) → vs.map (keyV H) = ps ∧ ∀ v ∈ vs, ∃ t, v = V.ref t ∧ Rd H t (.tup [.int (keyV H v).1, .int (keyV H v).2])
  | [], [], _ => ⟨rfl, fun _ m => by cases m⟩
  | [], _ :: _, h => by cases h
  | _ :: _, [], h => by cases h
  | v :: vs, p :: ps, h => by
    obtain _ | ⟨a, hs⟩ := h
    obtain ⟨i1, i2⟩ := keys_map hs
    have e := keyV_eq a
    refine ⟨by rw [List.map_cons, e, i1], fun w m => ?_⟩
    rcases List.mem_cons.mp m with m | m
    · rw [m, e]; exact dq_pairInv a
    · exact i2 w m
theorem cd_sorted {K : PySem.W.Frag} : CallD (rSortedQ K) sortK := fun xs vs δ σ O P H Q' Q I a q k => by
  unfold sortK at q
  split at q
  · obtain _ | ⟨a, _ | _⟩ := a
    obtain ⟨b, vs, rfl, hr, ha⟩ := a.lst
    obtain ⟨ps, rfl, hp, q⟩ := q
    obtain ⟨k1, k2⟩ := keys_map (dpa_le frz_le _ _ ha)
    refine ⟨b, vs, keyV H, rfl, .inl hr, k2, fun ys p hs hb np => ?_⟩
    have hv : SrtO.Srtd (ltP (keyV H)) vs := by
      have hp' : (vs.map (keyV H)).Pairwise lexLt := by rw [k1]; exact hp
      rw [List.pairwise_map] at hp'
      refine hp'.imp fun {x y} h => ?_
      refine SrtO.lexB_no.mpr ?_
      unfold lexLt at h
      omega
    have e := SrtO.stb_uniq (ltP_swo _) hs hv hb
    subst e
    exact k (.f _) _ (p :: O) _ (.newl I np ha) (.newo np) q
  · exact q.elim
theorem dg_mono {X : Cx} {tg : Expr} {g : TGd} {vs vs' : List Nat} (hv : ∀ i ∈ vs, i ∈ vs') (h : DG X vs tg g) : DG X vs' tg g := by
  obtain ⟨t, p, q⟩ := h.ex
  exact ⟨t, p, fun x v δ σ O P H Q' Q I d h k => q x v δ σ O P H Q' Q I d h fun δ' σ' O' H' R s w z => k δ' σ' O' H' R s (fun ws hw => w ws fun i hi => hw i (hv i hi)) z⟩
/-! steps of a comprehension with two fors -/
section
variable (vs vs1 : List Nat) (g : TGd) (tt : TTd) (ti1 : TDs) (g1 : TGd) (tt1 : TTd) (te : TD)
def kLc2 (Q : Rs → DSt → Prop) : List PyData → DSt → Prop := fun xs δ1 => compD2 vs vs1 g tt ti1 g1 tt1 te xs [] δ1 (kCompE vs δ1 Q)
def k24 (xs : List PyData) (Q : List PyData → DSt → Prop) : List PyData → DSt → Prop := fun acc' δ4 => compD2 vs vs1 g tt ti1 g1 tt1 te xs acc' δ4 Q
def k23 (xs acc : List PyData) (Q : List PyData → DSt → Prop) : List PyData → DSt → Prop := fun ys δ3 => compD vs1 g1 tt1 te ys acc δ3 (k24 vs vs1 g tt ti1 g1 tt1 te xs Q)
def k22 (xs acc : List PyData) (Q : List PyData → DSt → Prop) : Bool → DSt → Prop := fun b δ2 => if b = true then ti1 δ2 noR (k23 vs vs1 g tt ti1 g1 tt1 te xs acc Q) else compD2 vs vs1 g tt ti1 g1 tt1 te xs acc δ2 Q
def k21 (xs acc : List PyData) (Q : List PyData → DSt → Prop) : DSt → Prop := fun δ1 => tt δ1 noR (k22 vs vs1 g tt ti1 g1 tt1 te xs acc Q)
theorem ev_lc2 (ti : TDs) (δ : DSt) (R : RX) (Q) : dComp2 vs vs1 ti g tt ti1 g1 tt1 te δ R Q = ti δ R (kLc2 vs vs1 g tt ti1 g1 tt1 te Q) := rfl
theorem ev_klc2 (Q xs) (δ : DSt) : kLc2 vs vs1 g tt ti1 g1 tt1 te Q xs δ = compD2 vs vs1 g tt ti1 g1 tt1 te xs [] δ (kCompE vs δ Q) := rfl
theorem ev_c2N (acc Q) (δ : DSt) : compD2 vs vs1 g tt ti1 g1 tt1 te [] acc δ Q = Q acc δ := rfl
theorem ev_c2C (x xs acc Q) (δ : DSt) : compD2 vs vs1 g tt ti1 g1 tt1 te (x :: xs) acc δ Q = g x (wipeD δ vs) (k21 vs vs1 g tt ti1 g1 tt1 te xs acc Q) := rfl
theorem ev_k21 (xs acc Q) (δ : DSt) : k21 vs vs1 g tt ti1 g1 tt1 te xs acc Q δ = tt δ noR (k22 vs vs1 g tt ti1 g1 tt1 te xs acc Q) := rfl
theorem ev_k22T (xs acc Q) (δ : DSt) : k22 vs vs1 g tt ti1 g1 tt1 te xs acc Q true δ = ti1 δ noR (k23 vs vs1 g tt ti1 g1 tt1 te xs acc Q) := rfl
theorem ev_k22F (xs acc Q) (δ : DSt) : k22 vs vs1 g tt ti1 g1 tt1 te xs acc Q false δ = compD2 vs vs1 g tt ti1 g1 tt1 te xs acc δ Q := rfl
theorem ev_k23 (xs acc Q ys) (δ : DSt) : k23 vs vs1 g tt ti1 g1 tt1 te xs acc Q ys δ = compD vs1 g1 tt1 te ys acc δ (k24 vs vs1 g tt ti1 g1 tt1 te xs Q) := rfl
theorem ev_k24 (xs Q acc) (δ : DSt) : k24 vs vs1 g tt ti1 g1 tt1 te xs Q acc δ = compD2 vs vs1 g tt ti1 g1 tt1 te xs acc δ Q := rfl
end
theorem c_sort (ys : List PyData) (k : Rs → Prop) : sortK [.list ys] k = ∃ ps : List (Int × Int), ys = ps.map pairD ∧ ps.Pairwise lexLt ∧ k (.f ys) := rfl
end DL

namespace DL
open PySem L2 RZ PySem.Spec PyProof.Rows
/-! ## 23. repr(x) of data -/
theorem reprG {prog : Program} {w : World} {A : Around} {s : Shared} {E : Value → Shared → Prop} {Q : Value → Shared → Prop} : ∀ {v : Value} {d : PyData} {as : List Addr}, Reads s.heap v d as → d.showable = true → d.hasDict = false → d.shown.length ≤ sizeLine → A.guards = some [] → A.units + 1 + d.depth < cLine →
    (∀ h' u tk, (∀ b o, s.heap.get? b = some o → h'.get? b = some o) → Q (.str d.shown u) { s with heap := h', toks := tk }) → wpAny (model prog w) A (call (.builtin "repr") [v]) Q E s
  | _, _, _, .none, _, _, _, _, _, q => PySem.P.repr_of_none (q s.heap _ _ fun _ _ e => e)
  | _, _, _, .bool b, _, _, _, _, _, q => PySem.P.repr_of_bool (q s.heap _ _ fun _ _ e => e)
  | _, _, _, .int i t, hs, _, _, _, _, q => PySem.P.repr_of_int (by simpa [PyData.showable] using hs) (q s.heap _ _ fun _ _ e => e)
  | _, _, _, .str x t, _, _, hz, _, _, q => PySem.P.repr_of_str (q s.heap _ _ fun _ _ e => e) (by simpa only [PyData.shown] using hz)
  | _, _, _, .dict .., _, hd, _, _, _, _ => by simp only [PyData.hasDict] at hd; cases hd
  | _, _, _, .tuple (a := a) (xs := xs) h1 h2 h3 h4, hs, hd, hz, hg, hu, q => by
    simp only [PyData.shown] at hz q
    simp only [PyData.depth] at hu
    simp only [PyData.hasDict] at hd
    obtain ⟨bs, hb, hk⟩ := ReprAllK.of_readsAll (prog := prog) (w := w) h4 (by simpa [PyData.showable] using hs) (fun z => by rw [hd] at z; cases z) (fun t ht => Nat.le_trans (tupleText_mem_le ht) hz)
    have rr : Reads s.heap (.ref a) (.tuple xs) _ := .tuple h1 h2 h3 h4
    have na : a ∉ bs := not_mem_of_deeper rr (by simp only [PyData.depth]; omega) hb
    refine call_repr_slot (by omega) ⟨_, h1, h2⟩ F.slot_tuple_repr ?_
    exact call_tuple_reprK h1 h2 h3 na hk (A := A.in1) hg (fun b _ => Clear.nil b) (by show A.units + 1 + _ < cLine; omega) (fun _ _ e => e) (fun h' u tk hk' => ⟨_, _, rfl, q h' u tk hk'⟩) hz
  | _, _, _, .list (a := a) (vs := vs) (xs := xs) h1 h2 h3 h4, hs, hd, hz, hg, hu, q => by
    simp only [PyData.shown] at hz q
    simp only [PyData.depth] at hu
    simp only [PyData.hasDict] at hd
    obtain ⟨bs, hb, hk⟩ := ReprAllK.of_readsAll (prog := prog) (w := w) h4 (by simpa [PyData.showable] using hs) (fun z => by rw [hd] at z; cases z) (fun t ht => Nat.le_trans (listText_mem_le ht) hz)
    have rr : Reads s.heap (.ref a) (.list xs) _ := .list h1 h2 h3 h4
    have na : a ∉ bs := not_mem_of_deeper rr (by simp only [PyData.depth]; omega) hb
    refine call_repr_slot (by omega) ⟨_, h1, h2⟩ F.slot_list_repr.toG ?_
    obtain ⟨l⟩ := vs
    cases l with
    | nil =>
      have h4' : ReadsAll s.heap [] xs _ := h4
      cases h4'
      simp only [PyData.shownAll, listText_nil] at q
      exact call_list_repr_empty ⟨_, h1, h2⟩ h1 h3 ⟨_, _, rfl, q s.heap _ _ fun _ _ e => e⟩
    | cons x l =>
      exact call_list_reprK h1 h2 h3 na (by simpa using hk.length_eq) (fun i y e => hk.item i y (by simpa using e)) (A := A.in1) hg (fun b _ => Clear.nil b) (by show A.units + 1 + _ < cLine; omega) (fun _ _ e => e) (fun h' u tk hk' => ⟨_, _, rfl, q h' u tk hk'⟩) hz
def rReprD (K : PySem.W.Frag) : RC := fun xs H Q => ∃ v d, xs = [v] ∧ Dp K H v d ∧ d.showable = true ∧ SeqAt.shaped d = true ∧ d.shown.length ≤ sizeLine ∧ Q (.str d.shown) H
theorem call_reprD {X : Cx} {k : Nat} (hr : RoomG k X.A) : CallR X (.builtin "repr") (rReprD X.K) := by
  intro pins s σ H xs us Q I r h
  obtain ⟨v, d, rfl, hd, hs, sh, hz, q⟩ := h
  obtain ⟨u, rfl, ru⟩ := vals1 r
  obtain ⟨as, rr⟩ := Dp.reads I d v u hd ru
  unfold SeqAt.shaped at sh
  simp only [Bool.and_eq_true, decide_eq_true_eq] at sh
  refine reprG rr hs (PyData.hasDict_of_canLay _ sh.1) hz hr.gd (by have := hr.un; omega) fun h' u' tk hk => ?_
  exact ⟨.str _, H, I.kept (t' := tk) hk, ⟨_, rfl⟩, q⟩
def reprK : KC := fun xs k => match xs with
  | [x] => x.showable = true ∧ SeqAt.shaped x = true ∧ x.shown.length ≤ 16777216 ∧ k (.d (.str x.shown))
  | _ => False
theorem cd_repr {K : PySem.W.Frag} : CallD (rReprD K) reprK := fun xs vs δ σ O P H Q' Q I a q k => by
  unfold reprK at q
  split at q
  · obtain _ | ⟨a, _ | _⟩ := a
    obtain ⟨q1, q2, q3, q⟩ := q
    exact ⟨_, _, rfl, Dq.dp _ _ (sh_lay q2) a.full, q1, q2, q3, k _ _ O H (.dat I (.str _)) .refl q⟩
  · exact q.elim
theorem c_repr (x : PyData) (k : Rs → Prop) : reprK [x] k = (x.showable = true ∧ SeqAt.shaped x = true ∧ x.shown.length ≤ 16777216 ∧ k (.d (.str x.shown))) := rfl
end DL

namespace DL
open PySem L2 RZ
/-! ## 20. x = [] or [[c]]; for g in ..: (if ..: x.append([])); x[-1].append(g): lists in a list that nobody else holds -/
theorem frz_upd_mem {Z : List Addr} {H : Hp} {D : Addr} {o : HO} (m : D ∈ Z) : frz Z (upd H D o) = frz Z H := by
  funext a
  unfold frz
  by_cases h : a ∈ Z
  · rw [if_pos h, if_pos h]
  · rw [if_neg h, if_neg h, upd_ne (fun z => h (by rw [z]; exact m))]
section
variable {δ : DSt} {σ : L2.St} {O O' P Z : List Addr} {H H' : Hp} {D : Addr}
theorem Rel.updM {o : HO} (R : Rel δ σ O Z H) (m : D ∈ Z) : Rel δ σ O Z (upd H D o) where
  len := R.len
  dat := fun i x e => let ⟨v, a, b⟩ := R.dat i x e; ⟨v, a, by rw [frz_upd_mem (List.mem_append_right _ m)]; exact b⟩
  own := fun i n xs e => by
    obtain ⟨a, ws, h1, h2, h3, h4, h5⟩ := R.own i n xs e
    exact ⟨a, ws, h1, h2, h3, by rw [upd_ne (fun z => R.dis a h3 (by rw [z]; exact m))]; exact h4, by rw [frz_upd_mem (List.mem_append_right _ m)]; exact h5⟩
  inj := R.inj
  trk := fun a m' h => by
    by_cases z : a = D
    · subst z; rw [upd_same] at h; cases h
    · rw [upd_ne z] at h; exact R.trk a m' h
  dis := R.dis
theorem Stp.updM {o : HO} {H0 : Hp} {O0 : List Addr} (s : Stp O0 H0 O H) (n : H0 D = none) : Stp O0 H0 O (upd H D o) :=
  ⟨fun a u h m => by
    obtain ⟨h1, h2⟩ := s.keep a u h m
    exact ⟨by rw [upd_ne (ne_of_none h n)]; exact h1, h2⟩, fun a h => by
    by_cases e : a = D
    · subst e; rw [upd_same]; exact fun z => by cases z
    · rw [upd_ne e]; exact s.there a h⟩
/-- a slot of which nothing is known any more -/
theorem Rel.set_un {i : Nat} {v : V} (R : Rel δ σ O P H) (hi : i < δ.length) : Rel (ss δ i .un) (σ.set i (some v)) O P H := by
  rw [ss_eq]
  have no : ∀ (j : Nat) (y : Sl), (δ.set i .un)[j]? = some y → y ≠ .un → j ≠ i ∧ δ[j]? = some y := fun j y ej n => by
    by_cases hj : j = i
    · subst hj; rw [List.getElem?_set_self hi] at ej; exact (n (Option.some.inj ej).symm).elim
    · rw [List.getElem?_set_ne (Ne.symm hj)] at ej; exact ⟨hj, ej⟩
  refine ⟨by rw [List.length_set, List.length_set]; exact R.len, fun j y ej => ?_, fun j n ys ej => ?_, fun j k n n' ys zs b ej ek sj sk => ?_, R.trk, R.dis⟩
  · obtain ⟨hj, ej⟩ := no j _ ej (fun z => nomatch z)
    rw [List.getElem?_set_ne (Ne.symm hj)]
    exact R.dat j y ej
  · obtain ⟨hj, ej⟩ := no j _ ej (fun z => nomatch z)
    rw [List.getElem?_set_ne (Ne.symm hj)]
    exact R.own j n ys ej
  · obtain ⟨hj, ej⟩ := no j _ ej (fun z => nomatch z)
    obtain ⟨hk, ek⟩ := no k _ ek (fun z => nomatch z)
    rw [List.getElem?_set_ne (Ne.symm hj)] at sj
    rw [List.getElem?_set_ne (Ne.symm hk)] at sk
    exact R.inj j k n n' ys zs b ej ek sj sk
end
/-- the list at a holds the lists at bs (the last first), nobody else knows them -/
structure NSt (i : Nat) (δ : DSt) (σ : L2.St) (O0 P : List Addr) (H0 : Hp) (acc : List (List PyData)) (a : Addr) (bs O : List Addr) (H : Hp) : Prop where
  at_ : σ[i]? = some (some (.ref a))
  nd : (a :: bs).Nodup
  new : ∀ b ∈ a :: bs, H0 b = none
  rel : Rel δ σ O ((a :: bs) ++ P) H
  stp : Stp O0 H0 O H
  lst : H a = some (.lst (bs.reverse.map V.ref))
  els : Paired (fun b xs => ∃ ws, H b = some (.lst ws) ∧ DqAll (frz (O ++ ((a :: bs) ++ P)) H) ws xs) bs acc
section
variable {i : Nat} {δ : DSt} {σ : L2.St} {O0 O O' P : List Addr} {H0 H H' : Hp} {acc : List (List PyData)} {a : Addr} {bs : List Addr}
theorem paired_len' {α β : Type} {F : α → β → Prop} : ∀ {xs : List α} {ys : List β}, Paired F xs ys → xs.length = ys.length
  | _, _, .nil => rfl
  | _, _, .cons _ h => by rw [List.length_cons, List.length_cons, paired_len' h]
theorem NSt.step {δ' : DSt} (N : NSt i δ σ O0 P H0 acc a bs O H) (R : Rel δ' σ O' ((a :: bs) ++ P) H') (s : Stp O H O' H') : NSt i δ' σ O0 P H0 acc a bs O' H' where
  at_ := N.at_
  nd := N.nd
  new := N.new
  rel := R
  stp := N.stp.trans s
  lst := (s.keep a _ N.lst (fun z => N.rel.dis a z (by simp))).1
  els := by
    have key : ∀ (cs : List Addr) (ac : List (List PyData)), (∀ c ∈ cs, c ∈ bs) → Paired (fun b xs => ∃ ws, H b = some (.lst ws) ∧ DqAll (frz (O ++ ((a :: bs) ++ P)) H) ws xs) cs ac → Paired (fun b xs => ∃ ws, H' b = some (.lst ws) ∧ DqAll (frz (O' ++ ((a :: bs) ++ P)) H') ws xs) cs ac := fun cs ac m p => by
      induction p with
      | nil => exact .nil
      | cons h _ ih =>
        obtain ⟨ws, h1, h2⟩ := h
        exact .cons ⟨ws, (s.keep _ _ h1 (fun z => N.rel.dis _ z (by simp [m _ List.mem_cons_self]))).1, dpa_le s.le _ _ h2⟩ (ih fun c hc => m c (List.mem_cons_of_mem _ hc))
    exact key bs acc (fun _ h => h) N.els
theorem NSt.fin (N : NSt i δ σ O0 P H0 acc a bs O H) (hP : ∀ b ∈ P, H0 b ≠ none) (hi : i < δ.length) : Rel (ss δ i (.o none (acc.reverse.map PyData.list))) σ (a :: O) P H ∧ Stp O0 H0 (a :: O) H := by
  have nP : ∀ b ∈ a :: bs, b ∉ P := fun b hb hp => hP b hp (N.new b hb)
  have nO : ∀ b ∈ a :: bs, b ∉ O := fun b hb ho => N.rel.dis b ho (List.mem_append_left _ hb)
  have drops : ∀ (P : List Addr) (cs : List Addr), Rel δ σ O (cs ++ P) H → Rel δ σ O P H := fun P cs => by
    induction cs with
    | nil => exact fun h => h
    | cons c cs ih => exact fun h => ih h.dropp
  have R1 : Rel δ σ O P H := drops _ _ N.rel
  have R2 : Rel δ σ O (a :: P) H := by
    refine drops (a :: P) bs (N.rel.congrP fun x => ?_)
    simp only [List.cons_append, List.mem_cons, List.mem_append]
    constructor
    · rintro (h | h | h)
      · exact .inr (.inl h)
      · exact .inl h
      · exact .inr (.inr h)
    · rintro (h | h | h)
      · exact .inr (.inl h)
      · exact .inl h
      · exact .inr (.inr h)
  have R3 : Rel δ σ (a :: O) P H := R2.ptoo (nP a List.mem_cons_self)
  have hle : Le (frz (O ++ ((a :: bs) ++ P)) H) (frz ((a :: O) ++ P) H) := fun x o h => by
    obtain ⟨n, h⟩ := frz_some.mp h
    refine frz_some.mpr ⟨fun m => n ?_, h⟩
    simp only [List.cons_append, List.mem_cons, List.mem_append] at m ⊢
    rcases m with m | m | m
    · exact .inr (.inl m)
    · exact .inl m
    · exact .inr (.inr (.inr m))
  have els : ∀ (cs : List Addr) (ac : List (List PyData)), (∀ c ∈ cs, c ∈ bs) → Paired (fun b xs => ∃ ws, H b = some (.lst ws) ∧ DqAll (frz (O ++ ((a :: bs) ++ P)) H) ws xs) cs ac → DqAll (frz ((a :: O) ++ P) H) (cs.map V.ref) (ac.map PyData.list) := fun cs ac m p => by
    induction p with
    | nil => exact .nil
    | cons h _ ih =>
      rename_i b xs cs' ac' _
      obtain ⟨ws, h1, h2⟩ := h
      have hb : b ∈ bs := m b List.mem_cons_self
      refine .cons (.lst (.inl (frz_some.mpr ⟨fun z => ?_, h1⟩)) (dpa_le hle _ _ h2)) (ih fun c hc => m c (List.mem_cons_of_mem _ hc))
      simp only [List.cons_append, List.mem_cons, List.mem_append] at z
      rcases z with z | z | z
      · exact (List.nodup_cons.mp N.nd).1 (by rw [← z]; exact hb)
      · exact nO b (List.mem_cons_of_mem _ hb) z
      · exact nP b (List.mem_cons_of_mem _ hb) z
  have hd := dpa_rev (els bs acc (fun _ h => h) N.els)
  rw [← List.map_reverse, ← List.map_reverse] at hd
  have R4 := Rel.set_f (i := i) (nO a List.mem_cons_self) R1 R3 N.lst hd hi
  have es : σ.set i (some (.ref a)) = σ := by
    refine List.ext_getElem? fun j => ?_
    by_cases hj : j = i
    · subst hj
      rw [List.getElem?_set_self (by rw [R1.len]; exact hi), N.at_]
    · rw [List.getElem?_set_ne (Ne.symm hj)]
  rw [es] at R4
  rw [ss_eq]
  refine ⟨R4, ⟨fun x o h n => ?_, N.stp.there⟩⟩
  obtain ⟨k1, k2⟩ := N.stp.keep x o h n
  refine ⟨k1, fun z => ?_⟩
  rcases List.mem_cons.mp z with z | z
  · rw [z, N.new a List.mem_cons_self] at h; cases h
  · exact k2 z
/-- x.append([]) -/
theorem NSt.grow {b : Addr} (N : NSt i δ σ O0 P H0 acc a bs O H) (nb : H b = none) : NSt i δ σ O0 P H0 ([] :: acc) a (b :: bs) O (upd (upd H b (.lst [])) a (.lst (bs.reverse.map V.ref ++ [.ref b]))) ∧ Le (frz (O ++ ((a :: bs) ++ P)) H) (frz (O ++ ((a :: b :: bs) ++ P)) (upd (upd H b (.lst [])) a (.lst (bs.reverse.map V.ref ++ [.ref b])))) := by
  have hb0 : H0 b = none := by
    cases h : H0 b with
    | none => rfl
    | some o => exact (N.stp.there b (by rw [h]; exact fun z => by cases z) nb).elim
  have nba : b ≠ a := fun z => by rw [z, N.lst] at nb; cases nb
  have nbs : b ∉ bs := fun z => by
    exact N.rel.trk b (by simp [z]) nb
  have hne : a ∉ bs := (List.nodup_cons.mp N.nd).1
  have e1 : ∀ x, x ∈ b :: ((a :: bs) ++ P) ↔ x ∈ (a :: b :: bs) ++ P := fun x => by
    simp only [List.cons_append, List.mem_cons, List.mem_append]
    constructor
    · rintro (h | h | h | h)
      · exact .inr (.inl h)
      · exact .inl h
      · exact .inr (.inr (.inl h))
      · exact .inr (.inr (.inr h))
    · rintro (h | h | h | h)
      · exact .inr (.inl h)
      · exact .inl h
      · exact .inr (.inr (.inl h))
      · exact .inr (.inr (.inr h))
  have R1 : Rel δ σ O ((a :: b :: bs) ++ P) (upd H b (.lst [])) := (N.rel.newp nb).congrP e1
  have R2 : Rel δ σ O ((a :: b :: bs) ++ P) (upd (upd H b (.lst [])) a (.lst (bs.reverse.map V.ref ++ [.ref b]))) := R1.updM (by simp)
  have fe : frz (O ++ ((a :: b :: bs) ++ P)) (upd (upd H b (.lst [])) a (.lst (bs.reverse.map V.ref ++ [.ref b]))) = frz (O ++ ((a :: b :: bs) ++ P)) H := by
    rw [frz_upd_mem (by simp), frz_upd_mem (by simp)]
  have hle : Le (frz (O ++ ((a :: bs) ++ P)) H) (frz (O ++ ((a :: b :: bs) ++ P)) H) := fun x o h => by
    obtain ⟨n, h⟩ := frz_some.mp h
    refine frz_some.mpr ⟨fun m => n ?_, h⟩
    simp only [List.cons_append, List.mem_cons, List.mem_append] at m ⊢
    rcases m with m | m | m | m | m
    · exact .inl m
    · exact .inr (.inl m)
    · rw [m, nb] at h; cases h
    · exact .inr (.inr (.inl m))
    · exact .inr (.inr (.inr m))
  refine ⟨?_, by rw [fe]; exact hle⟩
  refine ⟨N.at_, ?_, fun x hx => ?_, R2, (N.stp.updM hb0).updM (N.new a List.mem_cons_self), ?_, ?_⟩
  · refine List.nodup_cons.mpr ⟨?_, List.nodup_cons.mpr ⟨nbs, (List.nodup_cons.mp N.nd).2⟩⟩
    simp only [List.mem_cons, not_or]
    exact ⟨Ne.symm nba, hne⟩
  · simp only [List.mem_cons] at hx
    rcases hx with hx | hx | hx
    · rw [hx]; exact N.new a List.mem_cons_self
    · rw [hx]; exact hb0
    · exact N.new x (List.mem_cons_of_mem _ hx)
  · rw [upd_same, List.reverse_cons, List.map_append]; rfl
  · rw [fe]
    refine .cons ⟨[], by rw [upd_ne nba, upd_same], .nil⟩ ?_
    have key : ∀ (cs : List Addr) (ac : List (List PyData)), (∀ c ∈ cs, c ∈ bs) → Paired (fun b xs => ∃ ws, H b = some (.lst ws) ∧ DqAll (frz (O ++ ((a :: bs) ++ P)) H) ws xs) cs ac → Paired (fun c xs => ∃ ws, upd (upd H b (.lst [])) a (.lst (bs.reverse.map V.ref ++ [.ref b])) c = some (.lst ws) ∧ DqAll (frz (O ++ ((a :: b :: bs) ++ P)) H) ws xs) cs ac := fun cs ac m p => by
      induction p with
      | nil => exact .nil
      | cons h _ ih =>
        obtain ⟨ws, h1, h2⟩ := h
        have hc := m _ List.mem_cons_self
        exact .cons ⟨ws, by rw [upd_ne (fun z => hne (by rw [← z]; exact hc)), upd_ne (fun z => nbs (by rw [← z]; exact hc))]; exact h1, dpa_le hle _ _ h2⟩ (ih fun c hc => m c (List.mem_cons_of_mem _ hc))
    exact key bs acc (fun _ h => h) N.els
/-- x[-1].append(v) -/
theorem NSt.push {b : Addr} {l : List PyData} {ws : List V} {v : V} {x : PyData} (N : NSt i δ σ O0 P H0 (l :: acc) a (b :: bs) O H) (hb : H b = some (.lst ws)) (hv : Dq (frz (O ++ ((a :: b :: bs) ++ P)) H) v x) :
    NSt i δ σ O0 P H0 ((l ++ [x]) :: acc) a (b :: bs) O (upd H b (.lst (ws ++ [v]))) := by
  have hne : a ≠ b ∧ a ∉ bs := by
    have := (List.nodup_cons.mp N.nd).1
    simpa only [List.mem_cons, not_or] using this
  have nbs : b ∉ bs := (List.nodup_cons.mp (List.nodup_cons.mp N.nd).2).1
  have fe : frz (O ++ ((a :: b :: bs) ++ P)) (upd H b (.lst (ws ++ [v]))) = frz (O ++ ((a :: b :: bs) ++ P)) H := frz_upd_mem (by simp)
  refine ⟨N.at_, N.nd, N.new, N.rel.updM (by simp), N.stp.updM (N.new b (by simp)), by rw [upd_ne hne.1]; exact N.lst, ?_⟩
  rw [fe]
  have := N.els
  cases this with
  | cons h t =>
    obtain ⟨ws', h1, h2⟩ := h
    rw [hb] at h1; cases h1
    refine .cons ⟨ws ++ [v], upd_same, dpa_append h2 (dpa_one hv)⟩ ?_
    have key : ∀ (cs : List Addr) (ac : List (List PyData)), (∀ c ∈ cs, c ∈ bs) → Paired (fun c xs => ∃ ws, H c = some (.lst ws) ∧ DqAll (frz (O ++ ((a :: b :: bs) ++ P)) H) ws xs) cs ac → Paired (fun c xs => ∃ ws', upd H b (.lst (ws ++ [v])) c = some (.lst ws') ∧ DqAll (frz (O ++ ((a :: b :: bs) ++ P)) H) ws' xs) cs ac := fun cs ac m p => by
      induction p with
      | nil => exact .nil
      | cons h _ ih =>
        obtain ⟨ws', h1, h2⟩ := h
        have hc := m _ List.mem_cons_self
        exact .cons ⟨ws', by rw [upd_ne (fun z => nbs (by rw [← z]; exact hc))]; exact h1, h2⟩ (ih fun c hc => m c (List.mem_cons_of_mem _ hc))
    exact key bs acc (fun _ h => h) t
theorem ExW.unders {E : XS} {R : RX} : ∀ (cs : List Addr), ExW E O P H R → ExW E O (cs ++ P) H R
  | [], h => h
  | c :: cs, h => (ExW.unders cs h).underP
end
/-- the turns: acc holds the lists so far, the last first -/
def nestD (i g : Nat) (tt : TTd) (D : DEnds) : List PyData → List (List PyData) → DSt → Prop
  | [], acc, δ => i < δ.length ∧ D.nx (ss δ i (.o none (acc.reverse.map PyData.list)))
  | x :: xs, acc, δ => g < δ.length ∧ tt (ss δ g (.d x)) noR fun b δ1 => gs δ1 g = .d x ∧ acc.length < 16777216 ∧ match (if b = true then [] :: acc else acc) with
    | l :: ls => l.length < 16777216 ∧ nestD i g tt D xs ((l ++ [x]) :: ls) δ1
    | [] => False
def sNest (i g : Nat) (acc : List (List PyData)) (ti : TDs) (tt : TTd) : TSd := fun D δ => i < δ.length ∧ i ≠ g ∧ ti (ss δ i .un) D.ex fun xs δ1 => nestD i g tt D xs acc δ1
abbrev appL (x : Str) (p1 ap1 cp1 ep1 lp : Pos) : Stmt := .Expr (.Call (.Attribute (.Name x p1) "append" ap1) [.List [] lp] [] cp1) ep1
abbrev appA (x g : Str) (j : Nat) (p2 kp up sp ap2 cp2 ep2 p3 : Pos) : Stmt := .Expr (.Call (.Attribute (.Subscript (.Name x p2) (.UnaryOp .USub (.Constant (.int 1) j kp) up) sp) "append" ap2) [.Name g p3] [] cp2) ep2
theorem NSt.setd {i g : Nat} {δ : DSt} {σ : L2.St} {O0 O P : List Addr} {H0 H : Hp} {acc : List (List PyData)} {a : Addr} {bs : List Addr} {v : V} {x : PyData} (N : NSt i δ σ O0 P H0 acc a bs O H) (hv : Dq (frz (O ++ ((a :: bs) ++ P)) H) v x) (hg : g < δ.length) (hi : i ≠ g) : NSt i (ss δ g (.d x)) (σ.set g (some v)) O0 P H0 acc a bs O H :=
  ⟨by rw [List.getElem?_set_ne (Ne.symm hi)]; exact N.at_, N.nd, N.new, by rw [ss_eq]; exact N.rel.set_d hv hg, N.stp, N.lst, N.els⟩
theorem at_last {b : Addr} {bs : List Addr} : atI ((b :: bs).reverse.map V.ref) (-1) = some (.ref b) := by
  unfold atI ixN
  have e1 : (1 : Int) ≤ ↑bs.length + 1 := by omega
  have e2 : (-1 + (↑bs.length + 1) : Int).toNat = bs.length := by omega
  simp [e1, e2]
section
variable {X : Cx} {E : XS} {iter test : Expr} {x gn : Str} {i g j : Nat} {p1 ap1 cp1 ep1 lp p2 kp up sp ap2 cp2 ep2 p3 ip pg fp : Pos} {ti : TDs} {tt : TTd}
theorem nest_for (hp : PassesOwn (model X.prog X.w) X.A X.env X.xe) (hc : X.calm = true) (hN : X.N.Nodup) (hig : i ≠ g) (hx : X.N[i]? = some x) (hv : Vis X.env.scope x) (hdb : (x == ("__debug__" : Str)) = false) (hcd : (x == ("__classdict__" : Str)) = false)
    (hgx : X.N[g]? = some gn) (hgv : Vis X.env.scope gn) (hgl : Loc X.env.scope gn) (hgdb : (gn == ("__debug__" : Str)) = false) (hgcd : (gn == ("__classdict__" : Str)) = false) (hgf : X.fn gn = true ∨ X.env.scope.names.lookup gn = some .local)
    (hi : DI X E (.Name gn pg) iter ti) (ht : DT X E test tt) (hs : ∀ x, foldedSetIterable iter X.env x = pure x)
    (hbase : attributeBase (.Name x p1) "append" X.env (eval (.Name x p1) X.env) = eval (.Name x p1) X.env)
    (hfew : ((backTo cp1 (starEach [.List [] lp] X.env)).all (fun x => !x.1) && (backToKw cp1 (keywordEach [] X.env)).all (fun x => x.1.isSome)
      && decide ([(.List [] lp : Expr)].length + ([] : List Keyword).length + (if ([] : List Keyword).isEmpty then 0 else 1) < 30)) = true)
    (hline : (ap1.endLine == cp1.line) = true) (hs1 : starEach (.List [] lp :: []) X.env = (false, eval (.List [] lp) X.env) :: starEach [] X.env) (hplain : (backTo cp1 (starEach [] X.env)).any (·.1) = false)
    (hsw : swapsWith (.Call (.Attribute (.Name x p1) "append" ap1) [.List [] lp] [] cp1) none ep1.line X.env = pure false)
    (hbase' : attributeBase (.Subscript (.Name x p2) (.UnaryOp .USub (.Constant (.int 1) j kp) up) sp) "append" X.env (eval (.Subscript (.Name x p2) (.UnaryOp .USub (.Constant (.int 1) j kp) up) sp) X.env) = eval (.Subscript (.Name x p2) (.UnaryOp .USub (.Constant (.int 1) j kp) up) sp) X.env)
    (hfew' : ((backTo cp2 (starEach [.Name gn p3] X.env)).all (fun x => !x.1) && (backToKw cp2 (keywordEach [] X.env)).all (fun x => x.1.isSome)
      && decide ([(.Name gn p3 : Expr)].length + ([] : List Keyword).length + (if ([] : List Keyword).isEmpty then 0 else 1) < 30)) = true)
    (hline' : (ap2.endLine == cp2.line) = true) (hs1' : starEach (.Name gn p3 :: []) X.env = (false, eval (.Name gn p3) X.env) :: starEach [] X.env) (hplain' : (backTo cp2 (starEach [] X.env)).any (·.1) = false)
    (hsw' : swapsWith (.Call (.Attribute (.Subscript (.Name x p2) (.UnaryOp .USub (.Constant (.int 1) j kp) up) sp) "append" ap2) [.Name gn p3] [] cp2) none ep2.line X.env = pure false) :
    ∃ ts, PS X (.For (.Name gn pg) iter [.If test [appL x p1 ap1 cp1 ep1 lp] [] ip, appA x gn j p2 kp up sp ap2 cp2 ep2 p3] [] fp) ts ∧
      ∀ (δ : DSt) (σ : L2.St) (O0 O P : List Addr) (H0 H : Hp) (acc : List (List PyData)) (a : Addr) (bs : List Addr) (DD : DEnds) (D : Ends), Lnk DD D E O0 P H0 → (∀ b ∈ P, H0 b ≠ none) → NSt i δ σ O0 P H0 acc a bs O H → ti δ DD.ex (fun xs δ1 => nestD i g tt DD xs acc δ1) → ts D σ H := by
  obtain ⟨wi, pi, qi⟩ := hi.ex
  obtain ⟨wt, pt, qt⟩ := ht.ex
  refine ⟨_, ps_for hp hc pi (pg_name hN hgx hgl hgf) (pss_cons (ps_if pt (pss_one (ps_expr (pe_bm PySem.F.plainAttrs_list PySem.F.slot_list_append PySem.F.type_list_append mt_append (pe_var hx hv hdb hcd) (pa_cons (pe_lst pa_nil) pa_nil hs1) hbase hfew hline hs1 hplain) hsw)) pss_nil)
    (pss_one (ps_expr (pe_bm PySem.F.plainAttrs_list PySem.F.slot_list_append PySem.F.type_list_append mt_append (pe_ix ix_list (pe_var hx hv hdb hcd) (pe_un un_neg pe_int) (fun _ _ => rfl)) (pa_cons (pe_var hgx hgv hgdb hgcd) pa_nil hs1') hbase' hfew' hline' hs1' hplain') hsw'))) hs, fun δ σ O0 O P H0 H acc a bs DD D L hP N h => ?_⟩
  refine qi δ σ O ((a :: bs) ++ P) H _ _ _ N.rel (ExW.unders (a :: bs) (L.ex.step N.stp)) h fun J xs δ1 O1 H1 R1 s1 it h1 => ?_
  have N1 := N.step R1 s1
  refine ⟨fun k m σc Hc => ∃ (δc : DSt) (Oc : List Addr) (ac : List (List PyData)) (new : List Addr), m = xs.length - k ∧ k ≤ xs.length ∧ NSt i δc σc O0 P H0 ac a (new ++ bs) Oc Hc ∧ Le (frz (O1 ++ ((a :: bs) ++ P)) H1) (frz (Oc ++ ((a :: (new ++ bs)) ++ P)) Hc) ∧ nestD i g tt DD (xs.drop k) ac δc,
    ⟨xs.length, δ1, O1, acc, [], rfl, Nat.zero_le _, N1, Le.refl _, h1⟩, ?_⟩
  rintro k m σc Hc ⟨δc, Oc, ac, new, rfl, hk, Nc, lec, hc'⟩
  have hz : ∀ Hx : Hp, frz ((Oc ++ new) ++ ((a :: bs) ++ P)) Hx = frz (Oc ++ ((a :: (new ++ bs)) ++ P)) Hx := fun Hx => frz_congr fun y => by
    simp only [List.mem_append, List.mem_cons]
    constructor
    · rintro ((h | h) | (h | h) | h)
      · exact .inl h
      · exact .inr (.inl (.inr (.inl h)))
      · exact .inr (.inl (.inl h))
      · exact .inr (.inl (.inr (.inr h)))
      · exact .inr (.inr h)
    · rintro (h | (h | h | h) | h)
      · exact .inl (.inl h)
      · exact .inr (.inl (.inl h))
      · exact .inl (.inr h)
      · exact .inr (.inl (.inr h))
      · exact .inr (.inr h)
  have trk : ∀ y, y ∈ (Oc ++ new) ++ ((a :: bs) ++ P) → Hc y ≠ none := fun y hy => Nc.rel.trk y (by
    simp only [List.mem_append, List.mem_cons] at hy ⊢
    rcases hy with (h | h) | (h | h) | h
    · exact .inl h
    · exact .inr (.inl (.inr (.inl h)))
    · exact .inr (.inl (.inl h))
    · exact .inr (.inl (.inr (.inr h)))
    · exact .inr (.inr h))
  by_cases hlt : k < xs.length
  · have hxk : xs[k]? = some xs[k] := List.getElem?_eq_getElem hlt
    rw [List.drop_eq_getElem_cons hlt] at hc'
    obtain ⟨hgl', hc'⟩ := hc'
    have hgo := (it (Oc ++ new) Hc (by rw [hz]; exact lec) trk k).1 _ hxk
    refine .inr ⟨hgo.1, (fun σ' H' => ∃ (δc : DSt) (Oc : List Addr) (ac : List (List PyData)) (new : List Addr), NSt i δc σ' O0 P H0 ac a (new ++ bs) Oc H' ∧ Le (frz (O1 ++ ((a :: bs) ++ P)) H1) (frz (Oc ++ ((a :: (new ++ bs)) ++ P)) H') ∧ nestD i g tt DD (xs.drop (k + 1)) ac δc), fun σ' H' n => ?_, fun y H' yl => ?_⟩
    · obtain ⟨δc, Oc, ac, new, q1, q2, q3⟩ := n
      exact ⟨xs.length - (k + 1), by omega, δc, Oc, ac, new, rfl, hlt, q1, q2, q3⟩
    · obtain ⟨dx, hH⟩ := hgo.2 y H' yl
      rw [hz] at dx
      have Rn : NSt i δc σc O0 P H0 ac a (new ++ bs) Oc H' ∧ Le (frz (O1 ++ ((a :: bs) ++ P)) H1) (frz (Oc ++ ((a :: (new ++ bs)) ++ P)) H') := by
        rcases hH with rfl | ⟨T, o, nT, rfl⟩
        · exact ⟨Nc, lec⟩
        · have sn : Stp Oc Hc Oc (upd Hc T o) := .newd nT
          exact ⟨Nc.step (Nc.rel.newd nT) sn, lec.trans sn.le⟩
      obtain ⟨Nn, len⟩ := Rn
      have N2 := Nn.setd dx hgl' hig
      -- the append to the last list
      have push : ∀ (b : Addr) (cs : List Addr) (l : List PyData) (ls : List (List PyData)) (δ3 : DSt) (O3 : List Addr) (H3 : Hp), (∃ nw, b :: cs = nw ++ bs) → NSt i δ3 (σc.set g (some y)) O0 P H0 (l :: ls) a (b :: cs) O3 H3 → Le (frz (O1 ++ ((a :: bs) ++ P)) H1) (frz (O3 ++ ((a :: b :: cs) ++ P)) H3) →
          gs δ3 g = .d xs[k] → l.length < 16777216 → nestD i g tt DD (xs.drop (k + 1)) ((l ++ [xs[k]]) :: ls) δ3 →
          tDrop (tBM X.K "list" rAppend (tOp (rIxL X.K) (tVar i) (tUn (rU fun i => .int (-i)) (tC (.int 1)))) (tCons (tVar g) tNil)) { D with nx := (fun σ' H' => ∃ (δc : DSt) (Oc : List Addr) (ac : List (List PyData)) (new : List Addr), NSt i δc σ' O0 P H0 ac a (new ++ bs) Oc H' ∧ Le (frz (O1 ++ ((a :: bs) ++ P)) H1) (frz (Oc ++ ((a :: (new ++ bs)) ++ P)) H') ∧ nestD i g tt DD (xs.drop (k + 1)) ac δc), ct := (fun σ' H' => ∃ (δc : DSt) (Oc : List Addr) (ac : List (List PyData)) (new : List Addr), NSt i δc σ' O0 P H0 ac a (new ++ bs) Oc H' ∧ Le (frz (O1 ++ ((a :: bs) ++ P)) H1) (frz (Oc ++ ((a :: (new ++ bs)) ++ P)) H') ∧ nestD i g tt DD (xs.drop (k + 1)) ac δc), bk := D.nx } (σc.set g (some y)) H3 := fun b cs l ls δ3 O3 H3 enw N3 le3 hg3 hll hn3 => by
        have els := N3.els
        cases els with
        | cons hb tl =>
          obtain ⟨ws, hb1, hb2⟩ := hb
          obtain ⟨v, hv1, hv2⟩ := N3.rel.dat g _ (gs_d hg3)
          have N4 := N3.push hb1 hv2
          obtain ⟨nw, enw⟩ := enw
          refine ⟨.ref a, N3.at_, 1, rfl, a, _, -1, .ref b, rfl, rfl, SqL.of N3.lst, at_last, .inl ⟨rfl, ws, SqL.of hb1⟩, v, hv1, b, ws, v, rfl, rfl, hb1, by rw [dpa_len hb2]; exact hll, ?_⟩
          rw [enw] at N4
          have fe : frz (O3 ++ ((a :: b :: cs) ++ P)) (upd H3 b (.lst (ws ++ [v]))) = frz (O3 ++ ((a :: b :: cs) ++ P)) H3 := frz_upd_mem (by simp)
          exact ⟨δ3, O3, _, nw, N4, by rw [← enw, fe]; exact le3, hn3⟩
      refine qt _ _ Oc ((a :: (new ++ bs)) ++ P) H' noR _ _ N2.rel .no hc' fun b δ3 O3 H3 R3 s3 h3 => ?_
      have N3 := N2.step R3 s3
      have le3 := len.trans s3.le
      obtain ⟨hg3, hl3, h3⟩ := h3
      cases b with
      | true =>
        refine iteT ⟨.ref a, N3.at_, .inl ⟨rfl, _, SqL.of N3.lst⟩, by decide, fun p np => ?_⟩
        obtain ⟨N4, le4⟩ := N3.grow np
        have npa : a ≠ p := fun z => by rw [← z, N3.lst] at np; cases np
        refine ⟨a, (new ++ bs).reverse.map V.ref, .ref p, rfl, rfl, by rw [upd_ne npa]; exact N3.lst, by rw [List.length_map, List.length_reverse, paired_len' N3.els]; exact hl3, ?_⟩
        simp only [if_true] at h3
        exact push p (new ++ bs) [] ac δ3 O3 _ ⟨p :: new, rfl⟩ N4 (le3.trans le4) hg3 h3.1 h3.2
      | false =>
        refine iteF ?_
        simp only [Bool.false_eq_true, if_false] at h3
        cases ac with
        | nil => exact h3.elim
        | cons l ls =>
          cases hnb : new ++ bs with
          | nil => rw [hnb] at N3; cases N3.els
          | cons b cs =>
            rw [hnb] at N3 le3
            exact push b cs l ls δ3 O3 _ ⟨new, hnb.symm⟩ N3 le3 hg3 h3.1 h3.2
  · have e : k = xs.length := by omega
    subst e
    rw [List.drop_length] at hc'
    have hst := (it (Oc ++ new) Hc (by rw [hz]; exact lec) trk xs.length).2 rfl
    obtain ⟨hil, hc'⟩ := hc'
    obtain ⟨Rf, sf⟩ := Nc.fin hP hil
    exact .inl ⟨hst, L.nx _ _ _ _ Rf sf hc'⟩
end
end DL

namespace DL
open PySem L2 RZ
section
variable {X : Cx} {E : XS} {iter test : Expr} {rest : List Stmt} {x gn : Str} {i g j j0 : Nat} {px lq lq1 kp0 ps p1 ap1 cp1 ep1 lp p2 kp up sp ap2 cp2 ep2 p3 ip pg fp : Pos} {ti : TDs} {tt : TTd} {u : TSd}
theorem dss_nest0 (hp : PassesOwn (model X.prog X.w) X.A X.env X.xe) (hc : X.calm = true) (hN : X.N.Nodup) (hi : DI X E (.Name gn pg) iter ti) (ht : DT X E test tt) (hr : DSs X E rest u) (hx : X.N[i]? = some x := by rfl) (hgx : X.N[g]? = some gn := by rfl) (hig : i ≠ g := by decide)
    (hv : Vis X.env.scope x := by first | exact Or.inl rfl | exact Or.inr (Or.inl rfl) | exact Or.inr (Or.inr rfl)) (hxl : Loc X.env.scope x := by first | exact Or.inl rfl | exact Or.inr rfl) (hxf : X.fn x = true ∨ X.env.scope.names.lookup x = some .local := by first | exact .inl rfl | exact .inr rfl)
    (hdb : (x == ("__debug__" : Str)) = false := by decide) (hcd : (x == ("__classdict__" : Str)) = false := by decide)
    (hgv : Vis X.env.scope gn := by first | exact Or.inl rfl | exact Or.inr (Or.inl rfl) | exact Or.inr (Or.inr rfl)) (hgl : Loc X.env.scope gn := by first | exact Or.inl rfl | exact Or.inr rfl) (hgdb : (gn == ("__debug__" : Str)) = false := by decide) (hgcd : (gn == ("__classdict__" : Str)) = false := by decide) (hgf : X.fn gn = true ∨ X.env.scope.names.lookup gn = some .local := by first | exact .inl rfl | exact .inr rfl)
    (hs : ∀ x, foldedSetIterable iter X.env x = pure x := by intro _; rfl)
    (hbase : attributeBase (.Name x p1) "append" X.env (eval (.Name x p1) X.env) = eval (.Name x p1) X.env := by rfl)
    (hfew : ((backTo cp1 (starEach [.List [] lp] X.env)).all (fun x => !x.1) && (backToKw cp1 (keywordEach [] X.env)).all (fun x => x.1.isSome)
      && decide ([(.List [] lp : Expr)].length + ([] : List Keyword).length + (if ([] : List Keyword).isEmpty then 0 else 1) < 30)) = true := by rfl)
    (hline : (ap1.endLine == cp1.line) = true := by rfl) (hs1 : starEach (.List [] lp :: []) X.env = (false, eval (.List [] lp) X.env) :: starEach [] X.env := by rfl) (hplain : (backTo cp1 (starEach [] X.env)).any (·.1) = false := by rfl)
    (hsw : swapsWith (.Call (.Attribute (.Name x p1) "append" ap1) [.List [] lp] [] cp1) none ep1.line X.env = pure false := by rfl)
    (hbase' : attributeBase (.Subscript (.Name x p2) (.UnaryOp .USub (.Constant (.int 1) j kp) up) sp) "append" X.env (eval (.Subscript (.Name x p2) (.UnaryOp .USub (.Constant (.int 1) j kp) up) sp) X.env) = eval (.Subscript (.Name x p2) (.UnaryOp .USub (.Constant (.int 1) j kp) up) sp) X.env := by rfl)
    (hfew' : ((backTo cp2 (starEach [.Name gn p3] X.env)).all (fun x => !x.1) && (backToKw cp2 (keywordEach [] X.env)).all (fun x => x.1.isSome)
      && decide ([(.Name gn p3 : Expr)].length + ([] : List Keyword).length + (if ([] : List Keyword).isEmpty then 0 else 1) < 30)) = true := by rfl)
    (hline' : (ap2.endLine == cp2.line) = true := by rfl) (hs1' : starEach (.Name gn p3 :: []) X.env = (false, eval (.Name gn p3) X.env) :: starEach [] X.env := by rfl) (hplain' : (backTo cp2 (starEach [] X.env)).any (·.1) = false := by rfl)
    (hsw' : swapsWith (.Call (.Attribute (.Subscript (.Name x p2) (.UnaryOp .USub (.Constant (.int 1) j kp) up) sp) "append" ap2) [.Name gn p3] [] cp2) none ep2.line X.env = pure false := by rfl)
    (hsw0 : swapsWith (.List [] lq) (some (.Name x px)) ps.line X.env = pure false := by rfl) :
    DSs X E (.Assign [.Name x px] (.List [] lq) ps :: .For (.Name gn pg) iter [.If test [appL x p1 ap1 cp1 ep1 lp] [] ip, appA x gn j p2 kp up sp ap2 cp2 ep2 p3] [] fp :: rest) (sSeq (sNest i g [] ti tt) u) := by
  obtain ⟨ts, p, q⟩ := nest_for (j := j) (p1 := p1) (ap1 := ap1) (cp1 := cp1) (ep1 := ep1) (lp := lp) (p2 := p2) (kp := kp) (up := up) (sp := sp) (ap2 := ap2) (cp2 := cp2) (ep2 := ep2) (p3 := p3) (ip := ip) (fp := fp) hp hc hN hig hx hv hdb hcd hgx hgv hgl hgdb hgcd hgf hi ht hs hbase hfew hline hs1 hplain hsw hbase' hfew' hline' hs1' hplain' hsw'
  obtain ⟨tr, p', q'⟩ := hr.ex
  refine ⟨_, pss_cons (ps_set hN hx hxl (pe_lst pa_nil) hsw0 hxf) (pss_cons p p'), fun δ σ O P H DD D I L h => ?_⟩
  obtain ⟨hi', _, h⟩ := h
  refine ⟨by decide, fun a na => ?_⟩
  have hs : i < σ.length := by rw [I.len]; exact hi'
  have N : NSt i (ss δ i .un) (σ.set i (some (.ref a))) O P H [] a [] O (upd H a (.lst [])) := ⟨List.getElem?_set_self hs, by simp, fun b hb => by rw [List.mem_singleton.mp hb]; exact na, (I.set_un hi').newp na, .newd na, upd_same, .nil⟩
  exact q _ _ O O P H _ [] a [] { DD with nx := fun δ1 => u DD δ1 } _ ⟨fun δ' σ' O' H' r s z => q' δ' σ' O' P H' DD D r (L.step s) z, L.rt, L.bk, L.ct, L.ex⟩ (fun b hb => I.trk b (List.mem_append_right _ hb)) N h
theorem dss_nest1 {c : Int} (hp : PassesOwn (model X.prog X.w) X.A X.env X.xe) (hc : X.calm = true) (hN : X.N.Nodup) (hi : DI X E (.Name gn pg) iter ti) (ht : DT X E test tt) (hr : DSs X E rest u) (hx : X.N[i]? = some x := by rfl) (hgx : X.N[g]? = some gn := by rfl) (hig : i ≠ g := by decide)
    (hv : Vis X.env.scope x := by first | exact Or.inl rfl | exact Or.inr (Or.inl rfl) | exact Or.inr (Or.inr rfl)) (hxl : Loc X.env.scope x := by first | exact Or.inl rfl | exact Or.inr rfl) (hxf : X.fn x = true ∨ X.env.scope.names.lookup x = some .local := by first | exact .inl rfl | exact .inr rfl)
    (hdb : (x == ("__debug__" : Str)) = false := by decide) (hcd : (x == ("__classdict__" : Str)) = false := by decide)
    (hgv : Vis X.env.scope gn := by first | exact Or.inl rfl | exact Or.inr (Or.inl rfl) | exact Or.inr (Or.inr rfl)) (hgl : Loc X.env.scope gn := by first | exact Or.inl rfl | exact Or.inr rfl) (hgdb : (gn == ("__debug__" : Str)) = false := by decide) (hgcd : (gn == ("__classdict__" : Str)) = false := by decide) (hgf : X.fn gn = true ∨ X.env.scope.names.lookup gn = some .local := by first | exact .inl rfl | exact .inr rfl)
    (hs : ∀ x, foldedSetIterable iter X.env x = pure x := by intro _; rfl)
    (hbase : attributeBase (.Name x p1) "append" X.env (eval (.Name x p1) X.env) = eval (.Name x p1) X.env := by rfl)
    (hfew : ((backTo cp1 (starEach [.List [] lp] X.env)).all (fun x => !x.1) && (backToKw cp1 (keywordEach [] X.env)).all (fun x => x.1.isSome)
      && decide ([(.List [] lp : Expr)].length + ([] : List Keyword).length + (if ([] : List Keyword).isEmpty then 0 else 1) < 30)) = true := by rfl)
    (hline : (ap1.endLine == cp1.line) = true := by rfl) (hs1 : starEach (.List [] lp :: []) X.env = (false, eval (.List [] lp) X.env) :: starEach [] X.env := by rfl) (hplain : (backTo cp1 (starEach [] X.env)).any (·.1) = false := by rfl)
    (hsw : swapsWith (.Call (.Attribute (.Name x p1) "append" ap1) [.List [] lp] [] cp1) none ep1.line X.env = pure false := by rfl)
    (hbase' : attributeBase (.Subscript (.Name x p2) (.UnaryOp .USub (.Constant (.int 1) j kp) up) sp) "append" X.env (eval (.Subscript (.Name x p2) (.UnaryOp .USub (.Constant (.int 1) j kp) up) sp) X.env) = eval (.Subscript (.Name x p2) (.UnaryOp .USub (.Constant (.int 1) j kp) up) sp) X.env := by rfl)
    (hfew' : ((backTo cp2 (starEach [.Name gn p3] X.env)).all (fun x => !x.1) && (backToKw cp2 (keywordEach [] X.env)).all (fun x => x.1.isSome)
      && decide ([(.Name gn p3 : Expr)].length + ([] : List Keyword).length + (if ([] : List Keyword).isEmpty then 0 else 1) < 30)) = true := by rfl)
    (hline' : (ap2.endLine == cp2.line) = true := by rfl) (hs1' : starEach (.Name gn p3 :: []) X.env = (false, eval (.Name gn p3) X.env) :: starEach [] X.env := by rfl) (hplain' : (backTo cp2 (starEach [] X.env)).any (·.1) = false := by rfl)
    (hsw' : swapsWith (.Call (.Attribute (.Subscript (.Name x p2) (.UnaryOp .USub (.Constant (.int 1) j kp) up) sp) "append" ap2) [.Name gn p3] [] cp2) none ep2.line X.env = pure false := by rfl)
    (hsA : starEach [.Constant (.int c) j0 kp0] X.env = (false, eval (.Constant (.int c) j0 kp0) X.env) :: starEach [] X.env := by rfl) (hsB : starEach [.List [.Constant (.int c) j0 kp0] lq1] X.env = (false, eval (.List [.Constant (.int c) j0 kp0] lq1) X.env) :: starEach [] X.env := by rfl)
    (hsw0 : swapsWith (.List [.List [.Constant (.int c) j0 kp0] lq1] lq) (some (.Name x px)) ps.line X.env = pure false := by rfl) :
    DSs X E (.Assign [.Name x px] (.List [.List [.Constant (.int c) j0 kp0] lq1] lq) ps :: .For (.Name gn pg) iter [.If test [appL x p1 ap1 cp1 ep1 lp] [] ip, appA x gn j p2 kp up sp ap2 cp2 ep2 p3] [] fp :: rest) (sSeq (sNest i g [[.int c]] ti tt) u) := by
  obtain ⟨ts, p, q⟩ := nest_for (j := j) (p1 := p1) (ap1 := ap1) (cp1 := cp1) (ep1 := ep1) (lp := lp) (p2 := p2) (kp := kp) (up := up) (sp := sp) (ap2 := ap2) (cp2 := cp2) (ep2 := ep2) (p3 := p3) (ip := ip) (fp := fp) hp hc hN hig hx hv hdb hcd hgx hgv hgl hgdb hgcd hgf hi ht hs hbase hfew hline hs1 hplain hsw hbase' hfew' hline' hs1' hplain' hsw'
  obtain ⟨tr, p', q'⟩ := hr.ex
  refine ⟨_, pss_cons (ps_set hN hx hxl (pe_lst (pa_cons (pe_lst (pa_cons pe_int pa_nil hsA)) pa_nil hsB)) hsw0 hxf) (pss_cons p p'), fun δ σ O P H DD D I L h => ?_⟩
  obtain ⟨hi', _, h⟩ := h
  refine ⟨by show 1 ≤ sizeLine; decide, fun b nb => ⟨by show 1 ≤ sizeLine; decide, fun a na => ?_⟩⟩
  have hs : i < σ.length := by rw [I.len]; exact hi'
  have nab : a ≠ b := fun z => by rw [z, upd_same] at na; cases na
  have na0 : H a = none := by rwa [upd_ne nab] at na
  have N : NSt i (ss δ i .un) (σ.set i (some (.ref a))) O P H [[.int c]] a [b] O (upd (upd H b (.lst [.int c])) a (.lst [.ref b])) := ⟨List.getElem?_set_self hs, by simp [nab], fun y hy => by
    rcases List.mem_cons.mp hy with z | z
    · rw [z]; exact na0
    · rw [List.mem_singleton.mp z]; exact nb, ((I.set_un hi').newp nb).newp na, (Stp.newd nb).trans (.newd na), upd_same, .cons ⟨[.int c], by rw [upd_ne (Ne.symm nab), upd_same], .cons (.int c) .nil⟩ .nil⟩
  exact q _ _ O O P H _ [[.int c]] a [b] { DD with nx := fun δ1 => u DD δ1 } _ ⟨fun δ' σ' O' H' r s z => q' δ' σ' O' P H' DD D r (L.step s) z, L.rt, L.bk, L.ct, L.ex⟩ (fun b hb => I.trk b (List.mem_append_right _ hb)) N h
end
/-! ### list(zip(a, b)) -/
section
variable {δ : DSt} {σ : L2.St} {O P : List Addr} {H H' : Hp} {p : Addr}
theorem frz_mono {Z : List Addr} (e : Le H H') : Le (frz Z H) (frz Z H') := fun a o h => by
  obtain ⟨n, h⟩ := frz_some.mp h
  exact frz_some.mpr ⟨n, e a o h⟩
theorem Rel.ext (R : Rel δ σ O P H) (e : Le H H') : Rel δ σ O P H' where
  len := R.len
  dat := fun i x h => let ⟨v, a, b⟩ := R.dat i x h; ⟨v, a, dp_le (frz_mono e) _ _ b⟩
  own := fun i m xs h => let ⟨a, ws, h1, h2, h3, h4, h5⟩ := R.own i m xs h; ⟨a, ws, h1, h2, h3, e _ _ h4, dpa_le (frz_mono e) _ _ h5⟩
  inj := R.inj
  trk := fun a m h => by
    cases h0 : H a with
    | none => exact R.trk a m h0
    | some o => rw [e a o h0] at h; cases h
  dis := R.dis
theorem frz_exto (e : Le H H') (n : H p = none) : Le (frz (O ++ P) H) (frz ((p :: O) ++ P) H') := fun a o h => by
  obtain ⟨m, h⟩ := frz_some.mp h
  refine frz_some.mpr ⟨fun z => ?_, e a o h⟩
  rcases List.mem_cons.mp z with z | z
  · rw [z, n] at h; cases h
  · exact m z
theorem Rel.exto (R : Rel δ σ O P H) (e : Le H H') (n : H p = none) (m : H' p ≠ none) : Rel δ σ (p :: O) P H' where
  len := R.len
  dat := fun i x h => let ⟨v, a, b⟩ := R.dat i x h; ⟨v, a, dp_le (frz_exto e n) _ _ b⟩
  own := fun i k xs h => let ⟨a, ws, h1, h2, h3, h4, h5⟩ := R.own i k xs h; ⟨a, ws, h1, h2, List.mem_cons_of_mem _ h3, e _ _ h4, dpa_le (frz_exto e n) _ _ h5⟩
  inj := R.inj
  trk := fun a z => by
    rcases List.mem_cons.mp z with z | z
    · rw [z]; exact m
    · exact (R.ext e).trk a z
  dis := fun a z h => by
    rcases List.mem_cons.mp z with z | z
    · subst z; exact R.trk a (List.mem_append_right _ h) n
    · exact R.dis a z h
theorem Stp.exto (e : Le H H') (n : H p = none) : Stp O H (p :: O) H' := ⟨fun a o h m => ⟨e a o h, fun z => by
  rcases List.mem_cons.mp z with z | z
  · rw [z, n] at h; cases h
  · exact m z⟩, fun a h z => by
  cases h0 : H a with
  | none => exact h h0
  | some o => rw [e a o h0] at z; cases z⟩
end
def dLZ (ta tb : TD) : TD := fun δ R Q => ta δ R fun r δ1 => tb δ1 R fun r' δ2 => zipV r.val r'.val fun zs => zs.length ≤ 16777216 ∧ Q (.f zs) δ2
theorem dqs_zip {Z : List Addr} {H' : Hp} : ∀ {ts : List Addr} {vs ws : List V} {xs ys : List PyData}, DqAll (frz Z H') vs xs → DqAll (frz Z H') ws ys → (∀ t ∈ ts, t ∉ Z) → Paired (fun (t : Addr) (q : V × V) => H' t = some (.tup [q.1, q.2])) ts (vs.zip ws) → DqAll (frz Z H') (ts.map V.ref) (zipD xs ys)
  | [], [], _, _, _, .nil, _, _, _ => by simp [zipD]; exact .nil
  | [], _ :: _, [], _, _, .cons _ _, .nil, _, _ => by simp [zipD]; exact .nil
  | _ :: _, [], _, _, _, _, _, _, h => by simp at h; cases h
  | _ :: _, _ :: _, [], _, _, _, _, _, h => by simp at h; cases h
  | t :: ts, v :: vs, w :: ws, _, _, .cons h1 t1, .cons h2 t2, n, h => by
    rw [List.zip_cons_cons] at h
    cases h with
    | cons h hs => exact .cons (.tup (.inl (frz_some.mpr ⟨n t List.mem_cons_self, h⟩)) (.cons h1 (.cons h2 .nil))) (dqs_zip t1 t2 (fun t m => n t (List.mem_cons_of_mem _ m)) hs)
  | [], _ :: _, _ :: _, _, _, .cons _ _, .cons _ _, _, h => by simp at h; cases h
theorem de_listZip {X : Cx} {E : XS} {e e2 : Expr} {te te2 : TD} {p p2 pos pos2 : Pos} (hc : X.calm = true) (hg : Gl X "list") (hm : X.mg "list" = none) (hg2 : Gl X "zip") (hm2 : X.mg "zip" = none) (ha : DE X E e te) (hb : DE X E e2 te2)
    (hs0 : starEach [.Call (.Name "zip" p2) [e, e2] [] pos2] X.env = (false, eval (.Call (.Name "zip" p2) [e, e2] [] pos2) X.env) :: starEach [] X.env := by rfl)
    (hs : starEach [e, e2] X.env = (false, eval e X.env) :: starEach [e2] X.env := by rfl) (hs1 : starEach (e2 :: []) X.env = (false, eval e2 X.env) :: starEach [] X.env := by rfl) (hpl : (backTo pos2 (starEach [e2] X.env)).any (·.1) = false := by rfl) :
    DE X E (.Call (.Name "list" p) [.Call (.Name "zip" p2) [e, e2] [] pos2] [] pos) (dLZ te te2) := by
  obtain ⟨t, pt, q⟩ := ha.ex
  obtain ⟨t', pt', q'⟩ := hb.ex
  refine ⟨_, LZ.pe_listZip hc hg hm (by decide +kernel) hg2 hm2 (pa_cons pt (pa_cons pt' pa_nil hs1) hs) hs0 hs hpl, fun δ σ O P H R Q' Q I w h k => ?_⟩
  refine q δ σ O P H R _ _ I w h fun r v δ1 O1 H1 g s1 h1 => ?_
  obtain ⟨O2, R2, d, s2⟩ := g.share s1
  refine q' δ1 σ O2 P H1 R _ _ R2 (w.step s2) h1 fun r' v' δ2 O3 H2 g' s3 h2 => ?_
  obtain ⟨O4, R4, d', s4⟩ := g'.share s3
  have d2 := s4.dp d
  have go : ∀ (a b : Addr) (vs ws : List V) (xs ys : List PyData), v = .ref a → v' = .ref b → LZ.SqX X.K H2 a vs → LZ.SqX X.K H2 b ws → DqAll (frz (O4 ++ P) H2) vs xs → DqAll (frz (O4 ++ P) H2) ws ys → ((zipD xs ys).length ≤ 16777216 ∧ Q' (.f (zipD xs ys)) δ2) →
      ∃ a b xs ys, [v, v'] = [V.ref a, V.ref b] ∧ LZ.SqX X.K H2 a xs ∧ LZ.SqX X.K H2 b ys ∧ ∀ H' p ts, LZ.Laid H2 H' p ts (xs.zip ys) → Q (.ref p) H' := fun a b vs ws xs ys e1 e2 r1 r2 d1 d2 h =>
    ⟨a, b, vs, ws, by rw [e1, e2], r1, r2, fun H' p ts L => by
      obtain ⟨l1, l2, l3, l4, l5, l6⟩ := L
      have hp : H' p ≠ none := by rw [l5]; exact fun z => nomatch z
      have nO : p ∉ O4 := fun z => R4.trk p (List.mem_append_left _ z) l2
      have nP : p ∉ P := fun z => R4.trk p (List.mem_append_right _ z) l2
      refine k (.f (zipD xs ys)) _ δ2 (p :: O4) H' ⟨p, _, O4, rfl, rfl, nO, nP, R4.ext l1, R4.exto l1 l2 hp, l5, dqs_zip (dpa_le (frz_exto l1 l2) _ _ d1) (dpa_le (frz_exto l1 l2) _ _ d2) (fun t m z => ?_) l6⟩ ((s2.trans s4).trans (.exto l1 l2)) h.2
      rcases List.mem_cons.mp z with z | z
      · exact l4 (by rw [← z]; exact m)
      · exact R4.trk t z (l3 t m)⟩
  have lq : ∀ {a : Addr} {vs : List V}, Rd (frz (O4 ++ P) H2) a (.lst vs) → LZ.SqX X.K H2 a vs := fun h => .inl (.inl (rd_le frz_le h))
  have tq : ∀ {a : Addr} {vs : List V}, Rd (frz (O4 ++ P) H2) a (.tup vs) → LZ.SqX X.K H2 a vs := fun h => .inr (.inl (rd_le frz_le h))
  unfold zipV at h2
  split at h2
  · rename_i xs ys e1 e2
    rw [e1] at d2
    rw [e2] at d'
    cases d2 with
    | lst h1' h2' =>
      cases d' with
      | lst h3' h4' => exact go _ _ _ _ _ _ rfl rfl (lq h1') (lq h3') h2' h4' h2
  · rename_i xs ys e1 e2
    rw [e1] at d2
    rw [e2] at d'
    cases d2 with
    | tup h1' h2' =>
      cases d' with
      | tup h3' h4' => exact go _ _ _ _ _ _ rfl rfl (tq h1') (tq h3') h2' h4' h2
  · rename_i xs ys e1 e2
    rw [e1] at d2
    rw [e2] at d'
    cases d2 with
    | lst h1' h2' =>
      cases d' with
      | tup h3' h4' => exact go _ _ _ _ _ _ rfl rfl (lq h1') (tq h3') h2' h4' h2
  · rename_i xs ys e1 e2
    rw [e1] at d2
    rw [e2] at d'
    cases d2 with
    | tup h1' h2' =>
      cases d' with
      | lst h3' h4' => exact go _ _ _ _ _ _ rfl rfl (tq h1') (lq h3') h2' h4' h2
  · exact h2.elim
/-! ### truth of lists -/
def truQ (x : PyData) (k : Bool → Prop) : Prop := match x with
  | .bool b => k b
  | .list xs => k (!xs.isEmpty)
  | .tuple xs => k (!xs.isEmpty)
  | .none => k false
  | .int i => k (i != 0)
  | _ => False
def dTru (t : TD) : TTd := fun δ R Q => t δ R fun r δ' => truQ r.val fun b => Q b δ'
theorem dpa_empty {H : Hp} {vs : List V} {xs : List PyData} (h : DqAll H vs xs) : (!vs.isEmpty) = !xs.isEmpty := by cases h <;> rfl
theorem dt_tru {X : Cx} {E : XS} {e : Expr} {te : TD} (h : DE X E e te) (he : ∀ whole, isTrue e X.env whole = (do let v ← whole; standAt e.pos; holding [v] (truthy v)) := by intro _; rfl) : DT X E e (dTru te) := by
  obtain ⟨t, p, q⟩ := h.ex
  refine ⟨_, pt_truth p he, fun δ σ O P H R Q' Q I w h k => ?_⟩
  refine q δ σ O P H R _ _ I w h fun r v δ' O' H' g s h' => ?_
  obtain ⟨O1, R1, d, s1⟩ := g.share s
  unfold truQ at h'
  split at h'
  · rename_i b e; rw [e] at d; cases d; exact ⟨_, rfl, k _ δ' O1 H' R1 s1 h'⟩
  · rename_i xs e
    rw [e] at d
    cases d with
    | lst h1 h2 => exact ⟨_, .inl ⟨_, .inl (rd_le frz_le h1), (dpa_empty h2).symm⟩, k _ δ' O1 H' R1 s1 h'⟩
  · rename_i xs e
    rw [e] at d
    cases d with
    | tup h1 h2 => exact ⟨_, .inr (.inl ⟨_, .inl (rd_le frz_le h1), (dpa_empty h2).symm⟩), k _ δ' O1 H' R1 s1 h'⟩
  · rename_i e; rw [e] at d; cases d; exact ⟨_, rfl, k _ δ' O1 H' R1 s1 h'⟩
  · rename_i i e; rw [e] at d; cases d; exact ⟨_, rfl, k _ δ' O1 H' R1 s1 h'⟩
  · exact h'.elim
/-! ### the readings' equations -/
def kLZ2 (r : Rs) (Q : Rs → DSt → Prop) : Rs → DSt → Prop := fun r' δ2 => zipV r.val r'.val fun zs => zs.length ≤ 16777216 ∧ Q (.f zs) δ2
def kLZ (tb : TD) (R : RX) (Q : Rs → DSt → Prop) : Rs → DSt → Prop := fun r δ1 => tb δ1 R (kLZ2 r Q)
def kLZ3 (δ : DSt) (Q : Rs → DSt → Prop) : List PyData → Prop := fun zs => zs.length ≤ 16777216 ∧ Q (.f zs) δ
def kTru (Q : Bool → DSt → Prop) : Rs → DSt → Prop := fun r δ' => truQ r.val fun b => Q b δ'
def kNestI (i g : Nat) (tt : TTd) (D : DEnds) (acc : List (List PyData)) : List PyData → DSt → Prop := fun xs δ1 => nestD i g tt D xs acc δ1
section
variable {δ : DSt} {R : RX} {D : DEnds}
theorem eqD_ss (a b : Str) (k : Rs → Prop) : eqD (.str a) (.str b) k = k (.d (.bool (decide (a = b)))) := rfl
theorem neD_ss (a b : Str) (k : Rs → Prop) : neD (.str a) (.str b) k = k (.d (.bool (!decide (a = b)))) := rfl
theorem o_isB (a b : Bool) (k : Rs → Prop) : isND (.bool a) (.bool b) k = k (.d (.bool (decide (a = b)))) := rfl
theorem o_notB (a b : Bool) (k : Rs → Prop) : notND (.bool a) (.bool b) k = k (.d (.bool (!decide (a = b)))) := rfl
theorem c_sumT1 (ys : List PyData) (k : Rs → Prop) : sumK [.tuple ys] k = ∃ ns : List Int, ys = ns.map PyData.int ∧ k (.d (.int ns.sum)) := rfl
theorem ev_lz (t u Q) : dLZ t u δ R Q = t δ R (kLZ u R Q) := rfl
theorem ev_klz (u Q r) : kLZ u R Q r δ = u δ R (kLZ2 r Q) := rfl
theorem ev_klz2 (r Q r') : kLZ2 r Q r' δ = zipV r.val r'.val (kLZ3 δ Q) := rfl
theorem ev_klz3 (Q zs) : kLZ3 δ Q zs = (zs.length ≤ 16777216 ∧ Q (.f zs) δ) := rfl
theorem ev_tru (t Q) : dTru t δ R Q = t δ R (kTru Q) := rfl
theorem ev_ktruB (b Q) : kTru Q (.d (.bool b)) δ = Q b δ := rfl
theorem ev_ktruL (xs Q) : kTru Q (.d (.list xs)) δ = Q (!xs.isEmpty) δ := rfl
theorem ev_ktruF (xs Q) : kTru Q (.f xs) δ = Q (!xs.isEmpty) δ := rfl
theorem ev_nest (i g acc ti tt) : sNest i g acc ti tt D δ = (i < δ.length ∧ i ≠ g ∧ ti (ss δ i .un) D.ex (kNestI i g tt D acc)) := rfl
theorem ev_knest (i g tt acc xs) : kNestI i g tt D acc xs δ = nestD i g tt D xs acc δ := rfl
end
end DL
namespace DL
open PySem L2
/-- a block in a block -/
def relS (sc0 scope : Scope) : Scope := { scope with names := scope.names.map fun (n, k) => if (k == NameKind.free && sc0.kind == .function && sc0.names.lookup n == some .cell) then (n, NameKind.cell) else (n, k) }
theorem rel_s {scope sc0 : Scope} {env : Env} (e : env.scope = sc0) : relabel scope env = relS sc0 scope := by
  subst e
  rfl
theorem blk_in {N : List Str} {sc0 so scope : Scope} {own : List (Str × Nat)} {env : Env} {cl : List (Str × Addr)} {C : Addr} (e : env.scope = sc0) (h : L2.blkC N (relS sc0 so) scope own = true) : BlkOk N (compEnvC so cl C env).scope scope own := by
  have : (compEnvC so cl C env).scope = relS sc0 so := rel_s e
  rw [this]
  exact blkOk_by h
end DL

/-! x.reverse() as a statement over a list that its slot holds alone; for .. in reversed(x) -/
namespace DL
open PySem L2 RZ
section
variable {X : Cx} {E : XS} {e : Expr} {te : TD} {pos : Pos}
def sRev (i : Nat) : TSd := fun D δ => match gs δ i with
  | .o m xs => D.nx (ss δ i (.o m xs.reverse))
  | _ => False
theorem ds_reverse (i : Nat) {x : Str} {p apos cpos : Pos} (hN : X.N[i]? = some x := by rfl) (hv : Vis X.env.scope x := by first | exact Or.inl rfl | exact Or.inr (Or.inl rfl) | exact Or.inr (Or.inr rfl))
    (hdb : (x == ("__debug__" : Str)) = false := by decide) (hcd : (x == ("__classdict__" : Str)) = false := by decide)
    (hbase : attributeBase (.Name x p) "reverse" X.env (eval (.Name x p) X.env) = eval (.Name x p) X.env := by rfl)
    (hline : (apos.endLine == cpos.line) = true := by rfl)
    (hsw : swapsWith (.Call (.Attribute (.Name x p) "reverse" apos) [] [] cpos) none pos.line X.env = pure false := by rfl) :
    DS X E (.Expr (.Call (.Attribute (.Name x p) "reverse" apos) [] [] cpos) pos) (sRev i) := by
  refine ⟨_, ps_expr (pe_bm0 PySem.F.plainAttrs_list PySem.F.slot_list_reverse PySem.F.type_list_reverse mt_reverse (pe_var hN hv hdb hcd) hbase hline) hsw, fun δ σ O P H DD D I L h => ?_⟩
  unfold sRev at h
  split at h
  · rename_i m xs g0
    obtain ⟨a0, ws0, h1, _, h3, h4, h5⟩ := I.own i _ _ (gs_o g0)
    obtain ⟨R5, s5⟩ := I.chg (gs_o g0) h1 (dpa_rev h5)
    rw [ss_eq] at h
    exact ⟨.ref a0, h1, .inl ⟨rfl, ws0, SqL.of h4⟩, a0, ws0, rfl, rfl, h4, L.nx _ _ O _ R5 s5 h⟩
  · exact h.elim
theorem itd_rev {K : PySem.W.Frag} {O P : List Addr} {H : Hp} {a : Addr} {vs : List V} {xs : List PyData} (h : Rd (frz (O ++ P) H) a (.lst vs)) (d : DqAll (frz (O ++ P) H) vs xs) : ItD (Itv K a vs.length) xs.reverse O P H := fun O2 H2 s _ i => by
  have h2 : Rd H2 a (.lst vs) := rd_le frz_le (rd_le s h)
  have d2 := dpa_le s _ _ d
  have hl := dpa_len d
  refine ⟨fun x hx => ?_, fun hi => ?_⟩
  · have hi : i < xs.reverse.length := (List.getElem?_eq_some_iff.mp hx).1
    rw [List.length_reverse] at hi
    rw [List.getElem?_reverse hi] at hx
    rw [← hl] at hx hi
    obtain ⟨v, e1, e2⟩ := dpa_get d2 hx
    refine ⟨⟨hi, vs, v, .inl h2, e1⟩, fun v' H3 y => ?_⟩
    obtain ⟨rfl, y⟩ := y
    have := y vs (.inl h2)
    rw [e1] at this
    cases this
    exact ⟨e2, .inl rfl⟩
  · rw [List.length_reverse, ← hl] at hi
    show vs.length ≤ i
    omega
def iRevD (t : TD) : TDs := fun δ R Q => t δ R fun r δ1 => match r.val with
  | .list xs => Q xs.reverse δ1
  | _ => False
theorem di_rev {tg : Expr} {p : Pos} (hg : Gl X "reversed") (hm : X.mg "reversed" = none) (h : DE X E e te) (hs : starEach [e] X.env = (false, eval e X.env) :: starEach [] X.env := by rfl) : DI X E tg (.Call (.Name "reversed" p) [e] [] pos) (iRevD te) := by
  obtain ⟨t, pt, q⟩ := h.ex
  refine ⟨_, pi_reversed hg hm (pa_cons pt pa_nil hs) hs, fun δ σ O P H R Q' Q I w h k => ?_⟩
  refine q δ σ O P H R _ _ I w h fun r v δ1 O1 H1 g s1 h1 => ?_
  obtain ⟨O2, R2, d, s2⟩ := g.share s1
  split at h1
  · rename_i xs e
    rw [e] at d
    cases d with
    | lst h1' h2' => exact ⟨_, _, rfl, .inl (rd_le frz_le h1'), k _ xs.reverse δ1 O2 H1 R2 s2 (itd_rev h1' h2') h1⟩
  · exact h1.elim
/-! ### while -/
def whileD (t : TTd) (b : TSd) (D : DEnds) : Nat → DSt → Prop
  | 0, _ => False
  | n + 1, δ => t δ D.ex fun c δ1 => if c = true then b { D with nx := whileD t b D n, ct := whileD t b D n, bk := D.nx } δ1 else D.nx δ1
def sWhile (t : TTd) (b : TSd) : TSd := fun D δ => ∃ n, whileD t b D n δ
theorem ds_while {c : Expr} {body : List Stmt} {t : TTd} {tb : TSd} (hp : PassesOwn (model X.prog X.w) X.A X.env X.xe) (hc : DT X E c t) (hb : DSs X E body tb) : DS X E (.While c body [] pos) (sWhile t tb) := by
  obtain ⟨wc, pc, qc⟩ := hc.ex
  obtain ⟨wb, pb, qb⟩ := hb.ex
  refine ⟨_, ps_while hp pc pb, fun δ σ O P H DD D I L h => ?_⟩
  obtain ⟨n0, h⟩ := h
  refine ⟨fun m σc Hc => ∃ (δc : DSt) (Oc : List Addr), Rel δc σc Oc P Hc ∧ Stp O H Oc Hc ∧ whileD t tb DD m δc, ⟨n0, δ, O, I, .refl, h⟩, ?_⟩
  rintro m σc Hc ⟨δc, Oc, Rc, sc, hw⟩
  cases m with
  | zero => exact hw.elim
  | succ n =>
    refine qc δc σc Oc P Hc _ _ _ Rc (L.ex.step sc) hw fun b δ1 O1 H1 R1 s1 h1 => ?_
    have s01 := sc.trans s1
    cases b with
    | false => exact L.nx _ _ _ _ R1 s01 h1
    | true =>
      refine ⟨fun σ' H' => ∃ (δc : DSt) (Oc : List Addr), Rel δc σ' Oc P H' ∧ Stp O H Oc H' ∧ whileD t tb DD n δc, fun σ' H' z => ⟨n, Nat.lt_succ_self _, z⟩, ?_⟩
      refine qb δ1 σc O1 P H1 { DD with nx := whileD t tb DD n, ct := whileD t tb DD n, bk := DD.nx } _ R1 ⟨fun δ' σ' O' H'' r s z => ⟨δ', O', r, s01.trans s, z⟩, fun r v δ' σ' O' H'' g s z => L.rt r v δ' σ' O' H'' g (s01.trans s) z, fun δ' σ' O' H'' r s z => L.nx δ' σ' O' H'' r (s01.trans s) z, fun δ' σ' O' H'' r s z => ⟨δ', O', r, s01.trans s, z⟩, L.ex.step s01⟩ h1
/-! ### x.extend(e) -/
def rExtendR : V → List V → Hp → VK → Prop := fun x vs H Q => ∃ l b xs zs, x = .ref l ∧ vs = [.ref b] ∧ H l = some (.lst xs) ∧ Rd H b (.lst zs) ∧ xs.length + zs.length ≤ sizeLine ∧ Q .non (upd H l (.lst (xs ++ zs)))
theorem mt_extendR : MtR X "list.extend" rExtendR := by
  intro pins s σ H x vs v us Q I rx rv h
  obtain ⟨l, b, xs, zs, rfl, rfl, hH, hB, hz, q⟩ := h
  cases rx
  obtain ⟨u, rfl, ru⟩ := rv.one
  cases ru
  obtain ⟨z, its, n, r, hl, e⟩ := I.lstM hH
  obtain ⟨z2, its2, n2, r2, e2⟩ := hB.ok I.hok
  have hl2 := r2.length
  have hsz : its.toArray.size + its2.toArray.size ≤ sizeLine := by rw [List.size_toArray, List.size_toArray]; omega
  have hlong : ¬ (!its.toArray.isEmpty && Builtin.List.listTooLong (its.toArray.size + its2.toArray.size)) = true := by
    rw [notLongL hsz, Bool.and_false]
    exact Bool.false_ne_true
  refine call_meets PySem.F.slot_list_extend ⟨_, e, rfl⟩ PySem.F.entry_list_extend (PySem.F.args_list_extend_2 _ _)
    (AutoSeq1.list_extend_list_list_0 l its.toArray n b its2.toArray n2 hlong (by rw [List.size_toArray]; omega) (by omega)) ⟨e, e2, ?_⟩
  refine ⟨.non, _, I.lset (its' := its ++ its2) hH e (by simp) (r.append r2) ?_, rfl, q⟩
  rw [List.length_append]
  omega
def sExt (i : Nat) (te : TD) : TSd := fun D δ => (∃ m xs, gs δ i = .o m xs) ∧ te δ D.ex fun r δ1 => match r.val, gs δ1 i with
  | .list ys, .o m xs => xs.length + ys.length ≤ 16777216 ∧ D.nx (ss δ1 i (.o m (xs ++ ys)))
  | _, _ => False
theorem ds_extend (i : Nat) {x : Str} {p apos cpos : Pos} (he : DE X E e te) (hN : X.N[i]? = some x := by rfl) (hv : Vis X.env.scope x := by first | exact Or.inl rfl | exact Or.inr (Or.inl rfl) | exact Or.inr (Or.inr rfl))
    (hdb : (x == ("__debug__" : Str)) = false := by decide) (hcd : (x == ("__classdict__" : Str)) = false := by decide)
    (hbase : attributeBase (.Name x p) "extend" X.env (eval (.Name x p) X.env) = eval (.Name x p) X.env := by rfl)
    (hfew : ((backTo cpos (starEach [e] X.env)).all (fun x => !x.1) && (backToKw cpos (keywordEach [] X.env)).all (fun x => x.1.isSome)
      && decide ([e].length + ([] : List Keyword).length + (if ([] : List Keyword).isEmpty then 0 else 1) < 30)) = true := by rfl)
    (hline : (apos.endLine == cpos.line) = true := by rfl) (hs : starEach (e :: []) X.env = (false, eval e X.env) :: starEach [] X.env := by rfl) (hplain : (backTo cpos (starEach [] X.env)).any (·.1) = false := by rfl)
    (hsw : swapsWith (.Call (.Attribute (.Name x p) "extend" apos) [e] [] cpos) none pos.line X.env = pure false := by rfl) :
    DS X E (.Expr (.Call (.Attribute (.Name x p) "extend" apos) [e] [] cpos) pos) (sExt i te) := by
  obtain ⟨a, pa, qa⟩ := he.ex
  refine ⟨_, ps_expr (pe_bm PySem.F.plainAttrs_list PySem.F.slot_list_extend PySem.F.type_list_extend mt_extendR (pe_var hN hv hdb hcd) (pa_cons pa pa_nil hs) hbase hfew hline hs hplain) hsw, fun δ σ O P H DD D I L h => ?_⟩
  obtain ⟨⟨m0, xs0, g0⟩, h⟩ := h
  obtain ⟨a0, ws0, h1, _, h3, h4, _⟩ := I.own i _ _ (gs_o g0)
  refine ⟨.ref a0, h1, .inl ⟨rfl, ws0, SqL.of h4⟩, ?_⟩
  refine qa δ σ O P H _ _ _ I L.ex h fun r v δ1 O1 H1 g1 s1 h2 => ?_
  obtain ⟨O2, R2, d2, s2⟩ := g1.share s1
  split at h2
  · rename_i ys m xs ey e1
    obtain ⟨a1, ws, k1, k2, k3, k4, k5⟩ := R2.own i _ _ (gs_o e1)
    rw [h1] at k1; cases k1
    rw [ey] at d2
    cases d2 with
    | lst hr hd =>
      obtain ⟨R5, s5⟩ := R2.chg (gs_o e1) h1 (dpa_append k5 hd)
      refine ⟨a0, _, ws, _, rfl, rfl, k4, rd_le frz_le hr, by rw [dpa_len k5, dpa_len hd]; exact h2.1, ?_⟩
      rw [ss_eq] at h2
      exact L.nx _ _ O2 _ R5 (s2.trans s5) h2.2
  · exact h2.elim
/-! ### not x, of a list too -/
def dNotL (te : TD) : TD := fun δ R Q => te δ R fun r δ' => truQ r.val fun b => Q (.d (.bool (!b))) δ'
theorem de_notL {a : Expr} {ta : TD} (ha : DE X E a ta) : DE X E (.UnaryOp .Not a pos) (dNotL ta) := by
  obtain ⟨t, p, q⟩ := ha.ex
  refine ⟨_, pe_notT p, fun δ σ O P H R Q' Q I w h k => ?_⟩
  refine q δ σ O P H R _ _ I w h fun r v δ1 O1 H1 g s1 h1 => ?_
  obtain ⟨O2, R2, d, s2⟩ := g.share s1
  unfold truQ at h1
  split at h1
  · rename_i b e; rw [e] at d; cases d; exact ⟨_, rfl, k _ _ δ1 O2 H1 (.dat R2 (.bl _)) s2 h1⟩
  · rename_i xs e
    rw [e] at d
    cases d with
    | lst h1' h2' => exact ⟨_, .inl ⟨_, .inl (rd_le frz_le h1'), (dpa_empty h2').symm⟩, k _ _ δ1 O2 H1 (.dat R2 (.bl _)) s2 h1⟩
  · rename_i xs e
    rw [e] at d
    cases d with
    | tup h1' h2' => exact ⟨_, .inr (.inl ⟨_, .inl (rd_le frz_le h1'), (dpa_empty h2').symm⟩), k _ _ δ1 O2 H1 (.dat R2 (.bl _)) s2 h1⟩
  · rename_i e; rw [e] at d; cases d; exact ⟨_, rfl, k _ _ δ1 O2 H1 (.dat R2 (.bl _)) s2 h1⟩
  · rename_i i e; rw [e] at d; cases d; exact ⟨_, rfl, k _ _ δ1 O2 H1 (.dat R2 (.bl _)) s2 h1⟩
  · exact h1.elim
end
end DL

/-! defs as values: a global def's name, a call through a local name -/
namespace DL
open PySem L2 RZ PySem.Spec PyProof.Rows
section
variable {X : Cx} {E : XS} {e : Expr} {es : List Expr} {te : TD} {ta : TAd} {pos p : Pos} {CX : CXT} {k n : Nat} {ps : List Str} {S : DSp} {x : Str} {st : Stmt}
@[reducible] def fnD (a : Addr) : PyData := .dict [(.int (a : Int), .bool true)]
theorem de_gfn {f : Addr} (hg : Gl X x) (hm : X.mg x = some (.ref f)) (hd : (x == ("__debug__" : Str)) = false := by decide) : DE X E (.Name x pos) (dC (fnD f)) :=
  de_c (pe_glob hg hm (v := .ref f) rfl hd) fun _ => .fn f
theorem fn_inv {H : Hp} {v : V} {f : Addr} (h : Dq H v (fnD f)) : v = .ref f := by
  generalize hq : fnD f = q at h
  cases h with
  | fn a =>
    simp only [PyData.dict.injEq, List.cons.injEq, Prod.mk.injEq, PyData.int.injEq, and_true] at hq
    rw [Int.ofNat.inj hq]
  | _ => simp [fnD] at hq
/-- a def that is known at its address -/
def ValC (P : Program) (w : World) (K : PySem.W.Frag) (mg : Str → Option Value) (base : Heap) (CX : CXT) (k n : Nat) (f : Addr) (S : DSp) : Prop :=
  ∃ (fd : FuncData) (ps : List Str), FnG P w K mg base CX k f fd ps (spOf n S) ∧ PySem.W.keepIn K (.ref f) = true ∧ Binds K fd ps []
theorem Cal.val {P : Program} {w : World} {K : PySem.W.Frag} {mg : Str → Option Value} {base : Heap} {f : Addr} (G : Cal P w K mg base CX k x st ps n S) (hm : mg x = some (.ref f)) : ValC P w K mg base CX k n f S := by
  obtain ⟨⟨f', fd, F, m, ok⟩, bnd⟩ := G
  rw [hm] at m; cases m
  exact ⟨fd, ps, ok, F.kp, F.binds fun kV doc pm an cdv ct us hl => bnd kV doc pm an cdv ct us hl⟩
theorem Cal.addr {P : Program} {w : World} {K : PySem.W.Frag} {mg : Str → Option Value} {base : Heap} (G : Cal P w K mg base CX k x st ps n S) : ∃ f, mg x = some (.ref f) := by
  obtain ⟨⟨f, fd, F, m, ok⟩, bnd⟩ := G
  exact ⟨f, m⟩
/-- f is of T, with the contract S -/
def isOf (f : Addr) (S : DSp) (T : List (Addr × DSp)) : Prop := (f, S) ∈ T
theorem allv_nil {P : Program} {w : World} {K : PySem.W.Frag} {mg : Str → Option Value} {base : Heap} : ∀ f S, (f, S) ∈ ([] : List (Addr × DSp)) → ValC P w K mg base CX k n f S := fun _ _ h => nomatch h
theorem allv_cons {P : Program} {w : World} {K : PySem.W.Frag} {mg : Str → Option Value} {base : Heap} {a : Addr} {S0 : DSp} {T : List (Addr × DSp)} (h : ValC P w K mg base CX k n a S0) (t : ∀ f S, (f, S) ∈ T → ValC P w K mg base CX k n f S) : ∀ f S, (f, S) ∈ (a, S0) :: T → ValC P w K mg base CX k n f S := fun f S m => by
  rcases List.mem_cons.mp m with e | m
  · cases e; exact h
  · exact t f S m
/-- a call through slot i, which holds one of T -/
def dCallV (i n : Nat) (T : List (Addr × DSp)) (ta : TAd) : TD := fun δ R Q => ∃ f S, gs δ i = .d (fnD f) ∧ isOf f S T ∧ dCallN n S ta δ R Q
theorem pe_callVG {i : Nat} {f : Addr} {fd : FuncData} {sp : Sp} {t : TA} {E : XS} (F : FnG X.prog X.w X.K X.mg X.base CX k f fd ps sp) (hr : RoomG k X.A) (hN : X.N[i]? = some x) (hv : Vis X.env.scope x) (hk : PySem.W.keepIn X.K (.ref f) = true) (hb : Binds X.K fd ps [])
    (hx : ∀ σ, PassesAt CX X σ (E σ)) (ha : PA X (e :: es) t) (hdb : (x == ("__debug__" : Str)) = false) (hcd : (x == ("__classdict__" : Str)) = false)
    (he : starEach (e :: es) X.env = (false, eval e X.env) :: starEach es X.env) (hpl : (backTo pos (starEach es X.env)).any (·.1) = false) :
    PE X (.Call (.Name x p) (e :: es) [] pos) (fun σ H Q => σ[i]? = some (some (.ref f)) ∧ tCallS sp E t σ H Q) := by
  constructor
  rintro pins s σ H Q I ⟨slot, wish⟩
  have look := (pe_var (X := X) (pos := p) hN hv hdb hcd).run pins s σ H (fun u G => u = .ref f ∧ G = H) I ⟨_, slot, rfl, rfl⟩
  apply wpAny_Call_Name_kw
  refine thn look ?_
  rintro u s1 ⟨u', G, I1, r1, rfl, rfl⟩
  cases r1
  refine PySem.W.callWith_K (h₀ := X.base) I1.ok.mod.kin hk ?_ he hpl
  refine thn (ha.run pos pins s1 σ _ _ I1 wish) ?_
  rintro us s2 ⟨vs, H2, I2, rv, q⟩
  exact ⟨I2.kIn, goG F hr hb (hx σ) I2 rv q⟩
theorem de_callV (i : Nat) {T : List (Addr × DSp)} (G : ∀ f S, (f, S) ∈ T → ValC X.prog X.w X.K X.mg X.base CX k n f S) (hr : RoomG k X.A) (hx : ∀ σ, PassesAt CX X σ (E σ)) (ha : DAs X E (e :: es) ta)
    (hN : X.N[i]? = some x := by rfl) (hv : Vis X.env.scope x := by first | exact Or.inl rfl | exact Or.inr (Or.inl rfl) | exact Or.inr (Or.inr rfl)) (hdb : (x == ("__debug__" : Str)) = false := by decide) (hcd : (x == ("__classdict__" : Str)) = false := by decide)
    (he : starEach (e :: es) X.env = (false, eval e X.env) :: starEach es X.env := by rfl) (hpl : (backTo pos (starEach es X.env)).any (·.1) = false := by rfl) :
    DE X E (.Call (.Name x p) (e :: es) [] pos) (dCallV i n T ta) := by
  obtain ⟨t, pt, q⟩ := ha.ex
  refine ⟨fun σ H Q => ∃ f S, (f, S) ∈ T ∧ σ[i]? = some (some (.ref f)) ∧ tCallS (spOf n S) E t σ H Q, ⟨fun pins s σ H Q I h => ?_⟩, fun δ σ O P H R Q' Q I w h k => ?_⟩
  · obtain ⟨f, S, hm, h⟩ := h
    obtain ⟨fd, ps, ok, hk, hb⟩ := G f S hm
    exact (pe_callVG ok hr hN hv hk hb hx pt hdb hcd he hpl).run pins s σ H Q I h
  · obtain ⟨f, S, hs, hm, h⟩ := h
    obtain ⟨v, h1, h2⟩ := I.dat i _ (gs_d hs)
    have := fn_inv h2
    subst this
    refine ⟨f, S, hm, h1, ?_⟩
    refine q δ σ O P H R _ _ I w h fun os vs δ1 O1 H1 R1 a1 s1 h1 => ?_
    split at h1
    · rename_i as eo
      exact call_sound R1 (w.step s1) (a1.nrm R1) eo h1.1 h1.2.1 h1.2.2 fun r v δ' O' H' g s q' => k r v δ' O' H' g (s1.trans s) q'
    · exact h1.elim
theorem ev_callV (i n : Nat) (T : List (Addr × DSp)) (ta : TAd) (δ : DSt) (R : RX) (Q) : dCallV i n T ta δ R Q = ∃ f S, gs δ i = .d (fnD f) ∧ isOf f S T ∧ dCallN n S ta δ R Q := rfl
end
end DL

/-! a new list and a datum go to a def that changes the list -/
namespace DL
open PySem L2 RZ
section
variable {X : Cx} {E : XS} {e e2 : Expr} {pos p : Pos} {te tb : TD} {CX : CXT} {k : Nat} {ps : List Str} {S : DSp} {x : Str} {st : Stmt}
def kF2 (S : DSp) (Q : Rs → DSt → Prop) : List Rs → DSt → Prop := fun rs δ1 => match rs with
  | [.f xs, .d y] => S [.o xs, .d y] (fun _ _ => False) (kDat Q δ1)
  | _ => False
def dCallF2 (S : DSp) (te tb : TD) : TD := fun δ R Q => rCons te (rCons tb rNil) δ R (kF2 S Q)
theorem ev_callF2 (S : DSp) (te tb : TD) (δ : DSt) (R : RX) (Q) : dCallF2 S te tb δ R Q = rCons te (rCons tb rNil) δ R (kF2 S Q) := rfl
theorem ev_kf2 (S : DSp) (Q xs y δ) : kF2 S Q [.f xs, .d y] δ = S [.o xs, .d y] (fun _ _ => False) (kDat Q δ) := rfl
theorem de_callF2 (G : Cal X.prog X.w X.K X.mg X.base CX k x st ps 2 S) (hr : RoomG k X.A) (hg : Gl X x) (hx : ∀ σ, PassesAt CX X σ (E σ))
    (he : DE X E e te) (hb : DE X E e2 tb) (hdb : (x == ("__debug__" : Str)) = false := by decide) (hs : starEach (e :: [e2]) X.env = (false, eval e X.env) :: starEach [e2] X.env := by rfl) (hs2 : starEach (e2 :: []) X.env = (false, eval e2 X.env) :: starEach [] X.env := by rfl)
    (hpl : (backTo pos (starEach [e2] X.env)).any (·.1) = false := by rfl) :
    DE X E (.Call (.Name x p) [e, e2] [] pos) (dCallF2 S te tb) := by
  obtain ⟨⟨f, fd, F, hm, ok⟩, bnd⟩ := G
  obtain ⟨t, pt, q⟩ := (drs_cons he (drs_cons hb drs_nil hs2) hs).ex
  refine ⟨_, pe_callG ok hr hg hm F.kp (F.binds fun kV doc pm an cdv ct us hl => bnd kV doc pm an cdv ct us hl) hx pt hdb hs hpl, fun δ σ O P H R Q' Q I w h kk => ?_⟩
  refine q δ σ O P H R _ _ I w h fun rs vs δ1 O1 ms H1 nd np R0 ag s1 h1 => ?_
  unfold kF2 at h1
  split at h1
  · rename_i xs y
    have shape : ∃ a ws v, ms = [a] ∧ vs = [.ref a, v] ∧ H1 a = some (.lst ws) ∧ DqAll (frz (O1 ++ (ms ++ P)) H1) ws xs ∧ Dq (frz (O1 ++ (ms ++ P)) H1) v y := by
      match vs, ms, ag with
      | [], _, ag => simp [AgRel] at ag
      | [_], [], ag => simp [AgRel] at ag
      | [u], m :: ms, ag => simp [AgRel] at ag
      | u :: v :: r, [], ag => simp [AgRel] at ag
      | [u, v], m :: ms, ag =>
        simp only [List.map_cons, List.map_nil, AgRel] at ag
        obtain ⟨e1, ⟨ws, g1, g2⟩, g3, e3⟩ := ag
        subst e1
        cases ms with
        | nil => exact ⟨m, ws, v, rfl, rfl, g1, g2, g3⟩
        | cons _ _ => simp [AgRel] at e3
      | u :: v :: z :: r, m :: ms, ag => simp [AgRel] at ag
    obtain ⟨a, ws, v, rfl, rfl, hp, da, dy⟩ := shape
    obtain ⟨n2, hor⟩ := np a (by simp)
    have n1 : a ∉ O1 := fun z => R0.dis a z (by simp)
    have R1 : Rel δ1 σ O1 P H1 := Rel.dropp (D := a) R0
    have R2 : Rel δ1 σ (a :: O1) P H1 := Rel.ptoo (D := a) R0 n2
    have ez : frz (O1 ++ ([a] ++ P)) H1 = frz ([a] ++ (O1 ++ P)) H1 := frz_congr (fun b => by
      simp only [List.mem_append, List.mem_cons, List.not_mem_nil, or_false]
      constructor
      · rintro (h | h | h)
        · exact .inr (.inl h)
        · exact .inl h
        · exact .inr (.inr h)
      · rintro (h | h | h)
        · exact .inr (.inl h)
        · exact .inl h
        · exact .inr (.inr h))
    rw [ez] at da dy
    have s0 : Stp O H (a :: O1) H1 := ⟨fun b o hb n => by
      obtain ⟨j1, j2⟩ := s1.keep b o hb n
      refine ⟨j1, fun z => ?_⟩
      rcases List.mem_cons.mp z with z | z
      · subst z
        rcases hor with hor | hor
        · rw [hor] at hb; cases hb
        · exact n hor
      · exact j2 z, s1.there⟩
    refine ⟨[.o xs, .d y], [a], O1 ++ P, kDat Q' δ1, _, rfl, Nat.le_refl _, ⟨rfl, ⟨ws, hp, da⟩, dy, trivial⟩, fun b m => R2.trk b m, fun b m z => ?_, h1, fun r v ys H' ret sp q' => ?_, fun _ _ _ _ _ _ z => z.elim⟩
    · simp only [List.mem_singleton] at m
      rw [m] at z
      rcases List.mem_append.mp z with z | z
      · exact n1 z
      · exact n2 z
    · cases r with
      | f _ => exact q'.elim
      | p _ _ => exact q'.elim
      | d z =>
        obtain ⟨d1, _⟩ := ret
        have sub : ∀ b ∈ [a], b ∈ a :: O1 := fun b m => by simp only [List.mem_singleton] at m; rw [m]; exact List.mem_cons_self
        have hle : Le (frz ((a :: O1) ++ P) H1) (frz ((a :: O1) ++ P) H') := back_le [a] sub sp fun b m => .inl m
        have R3 : Rel δ1 σ (a :: O1) P H' := by
          refine ⟨R2.len, fun i x e => ?_, fun i m ys e => ?_, R2.inj, fun b m => sp.there b (R2.trk b m), R2.dis⟩
          · obtain ⟨v, k1, k2⟩ := R2.dat i x e
            exact ⟨v, k1, dp_le hle _ _ k2⟩
          · obtain ⟨b, us, k1, k2, k3, k4, k5⟩ := R2.own i m ys e
            obtain ⟨b', us', j1, j2, j3, _⟩ := R1.own i m ys e
            rw [k1] at j1; cases j1
            have nb : b ≠ a := fun z => n1 (by rw [← z]; exact j3)
            exact ⟨b, us, k1, k2, k3, (sp.keep b _ k4 (by simpa using nb)).1, dpa_le hle _ _ k5⟩
        have s3 : Stp (a :: O1) H1 (a :: O1) H' := ⟨fun b o h n => ⟨(sp.keep b o h fun z => n (sub b z)).1, n⟩, sp.there⟩
        exact kk (.d z) v δ1 (a :: O1) H' ⟨R3, d1⟩ (s0.trans s3) q'
  · exact h1.elim
end
end DL

/-! set(xs) and sorted(set(xs)), xs a list of ints -/
namespace DL
open PySem L2 PySem.Spec PyProof.Rows
section
variable {P : Program} {w : World} {A : Around} {E : Value → Shared → Prop} {s : Shared}
/-- a set that holds nothing yet -/
abbrev bare0 (w : World) : Obj := { cls := .type "set", dict := none, data := .set #[] 0 (.fresh 0 0 (!w.params.followText "set-order")) }
theorem setCall {l : Addr} {vs : Array Value} (ks : List Int) {Q : Value → Shared → Prop} (free : A.handled = none) (seq : s.heap.IsList l vs) (are : IntsAre vs.toList ks) (few : ks.length + 1 < scanBound)
    (done : ∀ (G : Heap) (tk m : Nat), SetR w G s.heap.objs.size (fun j => decide (j ∈ ks)) m → m ≤ ks.length → (∀ b o, s.heap.get? b = some o → G.get? b = some o) → Q (.ref s.heap.objs.size) { s with heap := G, toks := tk }) :
    wpAny (model P w) A (call (.type "set") [.ref l]) Q E s := by
  have len : vs.size = ks.length := by
    have := IntsAre.length are
    rwa [Array.length_toList] at this
  obtain ⟨c0, tl0, order⟩ := F.called_set.mro
  have q1 := F.called_set.made
  have q2 := F.called_set.sub
  refine wpAny_call (codeAny_of_tree ?_)
  show wpAny _ _ (callAny (Value.type "set") _) _ _ _
  refine wpAny_pure ⟨Code.quiet_builtin _ (by decide +kernel), (codeAny_builtin F.entry_type_call ?_)⟩
  rw [Around.under_plain (weight_type_call_type "set" [Value.ref l] []) rfl]
  have q3 := F.called_set.notType
  have q4 := F.called_set.canCreate
  have q5 := F.typeCall_set_1 (Value.ref l)
  repeat (any_goals (first | assumption | wp_step))

  refine codeAny_mono (code_set_led1 (.ref l) (E := E) (Q₁ := fun v z => v = .ref s.heap.objs.size ∧ z = { s with heap := s.heap.push (bare0 w) }) ⟨rfl, rfl⟩) fun back z hz => ?_
  match back, hz with
  | .error _, hz => exact hz
  | .ok (.ret v), hz =>
    obtain ⟨rfl, rfl⟩ := hz
    have at0 : (s.heap.push (bare0 w)).get? s.heap.objs.size = some (bare0 w) := Heap.get?_push_size _ rfl
    have ty0 : Shared.TypeIs { s with heap := s.heap.push (bare0 w) } (.ref s.heap.objs.size) "set" := ⟨_, at0, rfl⟩
    have q6 := F.called_set.init.lookup
    have q7 := F.called_set.init.bind (.ref s.heap.objs.size)
    repeat (any_goals (first | assumption | wp_step))

    refine codeAny_mono (codeAny_call_builtin (R := wants (fun v z => v = .none ∧ ∃ G tk m, z = { s with heap := G, toks := tk } ∧ SetR w G s.heap.objs.size (fun j => decide (j ∈ ks)) m ∧ m ≤ ks.length ∧
        (∀ b o, s.heap.get? b = some o → G.get? b = some o)) E) F.called_set.init.plain F.entry_set_init (check_set_init_1 ty0 ?_)) fun back2 z2 hz2 => ?_
    · obtain ⟨⟨oc, od, dt, osl⟩, ol, k1, nl, k2⟩ := seq
      simp only at k1 k2
      subst k1 k2
      have stay : (s.heap.push (bare0 w)).get? l = some { cls := .type "list", dict := od, data := .seq vs nl, slots := osl } := Heap.get?_push_of_some _ ol
      have q8 := F.sub_list_set
      have q9 := F.sub_list_frozenset
      have q10 : (Value.type "list" == Value.type "dict") = false := by decide
      have seq1 : (s.heap.push (bare0 w)).IsList l vs := ⟨_, stay, rfl, nl, rfl⟩
      unfold Builtin.«set.__init__» noKeywords Builtin.Frozenset.updateFrom
      generalize hp : pyIter = it
      wp_walk
      subst hp

      refine wpAny_pyIter_list seq1 ?_
      refine wpAny_bind (wpAny_runValue ?_)
      have below : l < s.heap.objs.size := Heap.lt_size ol
      have free3 : A.in1.in1.in1.handled = none := by simp [free]
      have off : l ≠ (s.heap.push (bare0 w)).objs.size := by
        rw [Heap.size_push]
        exact Nat.ne_of_lt (Nat.lt_succ_of_lt below)
      have out : s.heap.objs.size ∉ [(s.heap.push (bare0 w)).objs.size, l] := by
        rw [Heap.size_push]
        intro z
        rcases List.mem_cons.mp z with z | z
        · exact absurd z (Nat.ne_of_lt (Nat.lt_succ_self _))
        · rw [List.mem_singleton] at z
          exact absurd z (Nat.ne_of_gt below)
      have each : ∀ (i : Nat) (v : Value), vs[i]? = some v → ∃ k t, ks[i]? = some k ∧ v = .int k t := fun i v hv => by
        have hi : i < ks.length := by rw [← len]; exact (Array.getElem?_eq_some_iff.mp hv).1
        obtain ⟨t, e⟩ := IntsAre.int_at are i v (by rw [Array.getElem?_toList]; exact hv)
        refine ⟨ks[i], t, List.getElem?_eq_getElem hi, ?_⟩
        rw [e, List.getD_eq_getElem?_getD, List.getElem?_eq_getElem hi]
        rfl
      refine set_update_ints ((Walks.list free3 _ l off vs).toS) s.heap.objs.size out ks len few each (vs.size - 0) 0 _ (by omega) (Nat.zero_le _)
        ⟨⟨_, Heap.get?_push_size _ rfl, rfl, rfl⟩, (seq1.push _)⟩ ?first ?last
      case first => exact ⟨0, Nat.le_refl 0, setR_new_at (Heap.get?_push_of_some _ at0)⟩
      case last =>
        intro z m mv le R
        obtain ⟨G, g2, d2, tk, o2⟩ := z
        have e1 : g2 = s.gens := mv.gens
        have e2 : d2 = s.drawn := mv.drawn
        have e3 : o2 = s.os := mv.os
        subst e1 e2 e3
        show wpAny _ _ _ _ _ _
        refine wpAny_pure ?_
        show wpAny _ _ (ret Value.none) _ _ _
        rw [len] at le
        refine wpAny_pure ⟨rfl, G, tk, m, rfl, R, le, fun b o e => ?_⟩
        have lt := Heap.lt_size e
        refine mv.heap b o (fun z => ?_) (Heap.get?_push_of_some _ (Heap.get?_push_of_some _ e))
        rcases List.mem_cons.mp z with z | z
        · exact absurd z (Nat.ne_of_lt lt)
        · rw [List.mem_singleton, Heap.size_push] at z
          exact absurd z (Nat.ne_of_lt (Nat.lt_succ_of_lt lt))
    · match back2, hz2 with
      | .error _, hz2 => exact hz2
      | .ok (.ret v), hz2 =>
        obtain ⟨rfl, G, tk, m, rfl, R, le, kp⟩ := hz2
        repeat (any_goals (first | assumption | wp_step))
        exact done _ _ _ R le kp
end
/-- set(xs) of ints -/
def rSetI (K : PySem.W.Frag) (w : World) : RC := fun xs H Q => ∃ (l : Addr) (ks : List Int), xs = [.ref l] ∧ SqL K H l (ks.map V.int) ∧ ks.length < 60 ∧ ∀ p n, n ≤ ks.length → H p = none → Q (.ref p) (upd H p (SetO w p (fun j => decide (j ∈ ks)) n))
theorem call_setI {X : Cx} (hc : X.calm = true) : CallR X (.type "set") (rSetI X.K X.w) := by
  intro pins s σ H xs us Q I r h
  obtain ⟨l, ks, rfl, hl, few, q⟩ := h
  rw [Vals.ref1 r]
  obtain ⟨its, rv, pl, hz⟩ := I.list hl
  refine setCall (P := X.prog) (w := X.w) ks (I.ok.hd hc) pl.isList (by simpa using rv.ints) (by unfold scanBound; omega) fun G tk m R le kp => ?_
  exact ⟨.ref s.heap.objs.size, _, I.laid (t' := tk) kp (Nat.le_refl _) (setO_new R), rfl, q _ m le (I.hok.fresh (Nat.le_refl _))⟩
section
variable {X : Cx} {E : XS} {e : Expr} {te : TD} {pos pos2 p p2 : Pos}
def kSorS (Q : Rs → DSt → Prop) : Rs → DSt → Prop := fun r δ1 => ∃ ks : List Int, r.val = .list (ks.map .int) ∧ ks.length < 60 ∧ ∀ ns : List Int, ns.Pairwise (· < ·) → (∀ k : Int, k ∈ ns ↔ k ∈ ks) → Q (.f (ns.map .int)) δ1
def dSorS (te : TD) : TD := fun δ R Q => te δ R (kSorS Q)
theorem ev_sors (te : TD) (δ : DSt) (R : RX) (Q) : dSorS te δ R Q = te δ R (kSorS Q) := rfl
theorem ev_ksors (Q r) (δ : DSt) : kSorS Q r δ = ∃ ks : List Int, r.val = .list (ks.map .int) ∧ ks.length < 60 ∧ ∀ ns : List Int, ns.Pairwise (· < ·) → (∀ k : Int, k ∈ ns ↔ k ∈ ks) → Q (.f (ns.map .int)) δ := rfl
theorem de_sorSet (hc : X.calm = true) (hg : Gl X "sorted") (hm : X.mg "sorted" = none) (hg2 : Gl X "set") (hm2 : X.mg "set" = none) (he : DE X E e te)
    (hs : starEach (e :: []) X.env = (false, eval e X.env) :: starEach [] X.env := by rfl) (hpl : (backTo pos2 (starEach [] X.env)).any (·.1) = false := by rfl)
    (hs2 : starEach (.Call (.Name "set" p2) [e] [] pos2 :: []) X.env = (false, eval (.Call (.Name "set" p2) [e] [] pos2) X.env) :: starEach [] X.env := by rfl) (hpl2 : (backTo pos (starEach [] X.env)).any (·.1) = false := by rfl) :
    DE X E (.Call (.Name "sorted" p) [.Call (.Name "set" p2) [e] [] pos2] [] pos) (dSorS te) := by
  obtain ⟨t, pt, q⟩ := he.ex
  refine ⟨_, pe_callB (cr_sortedSet hc) hg hm (by decide +kernel) (pa_cons (pe_callTy (call_setI hc) hg2 hm2 (by decide +kernel) (pa_cons pt pa_nil hs) (by decide) (by decide) hs hpl) pa_nil hs2) (by decide) (by decide) hs2 hpl2, fun δ σ O P H R Q' Q I w h k => ?_⟩
  refine q δ σ O P H R _ _ I w h fun r v δ1 O1 H1 g s1 h1 => ?_
  obtain ⟨O2, R2, d, s2⟩ := g.share s1
  obtain ⟨ks, e1, few, h1⟩ := h1
  rw [e1] at d
  cases d with
  | lst hl da =>
    rename_i a vs
    have ev := dpa_ints_inv da
    subst ev
    refine ⟨a, ks, rfl, .inl (rd_le frz_le hl), few, fun p' n le np => ?_⟩
    refine ⟨p', _, n, rfl, upd_same, by omega, fun ns b up mem len nb => ?_⟩
    have npb : b ≠ p' := fun z => by rw [z, upd_same] at nb; cases nb
    rw [upd_ne npb] at nb
    have R3 := R2.newd (o := SetO X.w p' (fun j => decide (j ∈ ks)) n) np
    have s3 : Stp O2 H1 O2 (upd H1 p' (SetO X.w p' (fun j => decide (j ∈ ks)) n)) := .newd np
    have nb' : (upd H1 p' (SetO X.w p' (fun j => decide (j ∈ ks)) n)) b = none := by rw [upd_ne npb]; exact nb
    exact k (.f (ns.map .int)) (.ref b) δ1 (b :: O2) _ (.newl R3 nb' (dpa_ints ns)) ((s2.trans s3).trans (.newo nb')) (h1 ns up (fun k => by rw [mem k, decide_eq_true_eq]))
end
end DL

/-! x, y = a, b where a name is a cell: the tuple is made, then taken apart -/
namespace DL
open PySem L2 RZ
section
variable {X : Cx} {E : XS} {pos : Pos} {ts : TRs}
theorem ds_parC {i j : Nat} {x y : Str} {a b : Expr} {px py pt : Pos} {kt k2 pt2} (hc : X.calm = true) (hN : X.N.Nodup) (hi : X.N[i]? = some x) (hj : X.N[j]? = some y)
    (hx : Loc X.env.scope x) (hy : Loc X.env.scope y) (fx : X.fn x = true ∨ X.env.scope.names.lookup x = some .local) (fy : X.fn y = true ∨ X.env.scope.names.lookup y = some .local) (ha : DRs X E [a, b] ts)
    (hw : swappedStores [.Tuple [.Name x px, .Name y py] kt pt] (.Tuple [a, b] k2 pt2) X.env = pure none := by rfl)
    (hs : swapsWithSole [.Tuple [.Name x px, .Name y py] kt pt] (.Tuple [a, b] k2 pt2) pos.line X.env = pure false := by rfl)
    (h1 : (assignEach [.Tuple [.Name x px, .Name y py] kt pt] X.env).map (·.2) = [assign (.Tuple [.Name x px, .Name y py] kt pt) X.env] := by rfl)
    (h2 : (assignEach [.Name x px, .Name y py] X.env).map (·.2) = assign (.Name x px) X.env :: (assignEach [.Name y py] X.env).map (·.2) := by rfl)
    (h3 : (assignEach [.Name y py] X.env).map (·.2) = assign (.Name y py) X.env :: (assignEach [] X.env).map (·.2) := by rfl)
    (h4 : (assignEach [.Name x px, .Name y py] X.env).length = 2 := by rfl) (h5 : (assignEach [.Name x px, .Name y py] X.env).findIdx? (·.1) = none := by rfl) :
    DS X E (.Assign [.Tuple [.Name x px, .Name y py] kt pt] (.Tuple [a, b] k2 pt2) pos) (sPar [i, j] ts) := by
  obtain ⟨t, p, q⟩ := ha.ex
  refine ⟨_, ps_asg (pe_tup p) (pg_tup hc (pgs_cons (pg_name hN hi hx fx) (pgs_cons (pg_name hN hj hy fy) pgs_nil h3) h2) h4 h5) hs hw h1, fun δ σ O P H DD D I L h => ?_⟩
  refine q δ σ O P H _ _ _ I L.ex h fun rs vs δ1 O1 ps H1 nd np R1 a1 s1 h1 => ?_
  have el := a1.rlen.trans h1.1.symm
  obtain _ | ⟨v, _ | ⟨w, _ | ⟨z, vs⟩⟩⟩ := vs
  · simp at el
  · simp at el
  · refine ⟨by show 2 ≤ sizeLine; decide, fun T nT => ⟨T, [v, w], rfl, .inl (.inl upd_same), rfl, v, [w], rfl, w, [], rfl, rfl, ?_⟩⟩
    have R2 : Rel δ1 σ O1 (ps ++ P) (upd H1 T (.tup [v, w])) := R1.newd nT
    have a2 : AgRel (O1 ++ (ps ++ P)) (upd H1 T (.tup [v, w])) (rs.map Rs.ag) [v, w] ps := AgRel.le (frz_new nT) (fun m hm o ho => by rw [upd_ne (ne_of_none ho nT)]; exact ho) a1
    have s2 : Stp O H O1 (upd H1 T (.tup [v, w])) := s1.trans (.newd nT)
    exact par_step (σ := σ) (is := [i, j]) L nd np R2 a2 s2 h1
  · simp at el
end
end DL

namespace LW
open PySem L2 DL
theorem atI_0 {α : Type} (x : α) (r : List α) : atI (x :: r) 0 = some x := by unfold atI ixN; simp
theorem atI_1 {α : Type} (x y : α) (r : List α) : atI (x :: y :: r) 1 = some y := by
  unfold atI ixN
  rw [if_pos (by decide), if_pos (by simp only [List.length_cons]; omega)]
  rfl
theorem atI_2 {α : Type} (x y z : α) (r : List α) : atI (x :: y :: z :: r) 2 = some z := by
  unfold atI ixN
  rw [if_pos (by decide), if_pos (by simp only [List.length_cons]; omega)]
  rfl
theorem atI_3 {α : Type} (x y z u : α) (r : List α) : atI (x :: y :: z :: u :: r) 3 = some u := by
  unfold atI ixN
  rw [if_pos (by decide), if_pos (by simp only [List.length_cons]; omega)]
  rfl
theorem ixN_0 (n : Nat) : ixN (n + 1) 0 = some 0 := by unfold ixN; simp
theorem ixN_lit {n : Nat} {k : Int} (h0 : 0 ≤ k) (h : k < (n : Int)) : ixN n k = some k.toNat := by unfold ixN; rw [if_pos h0, if_pos h]
theorem eqD_int (i j : Int) (k : Rs → Prop) : eqD (.int i) (.int j) k = k (.d (.bool (decide (i = j)))) := rfl
theorem neD_int (i j : Int) (k : Rs → Prop) : neD (.int i) (.int j) k = k (.d (.bool (!decide (i = j)))) := rfl
theorem eqD_ll (x y : List PyData) (k : Rs → Prop) : eqD (.list x) (.list y) k = (SeqAt.shaped (.list x) = true ∧ SeqAt.shaped (.list y) = true ∧ k (.d (.bool (PyData.eqv (.list x) (.list y))))) := rfl
theorem neD_ll (x y : List PyData) (k : Rs → Prop) : neD (.list x) (.list y) k = (SeqAt.shaped (.list x) = true ∧ SeqAt.shaped (.list y) = true ∧ k (.d (.bool (!PyData.eqv (.list x) (.list y))))) := rfl
theorem eqD_tt (x y : List PyData) (k : Rs → Prop) : eqD (.tuple x) (.tuple y) k = (SeqAt.shaped (.tuple x) = true ∧ SeqAt.shaped (.tuple y) = true ∧ k (.d (.bool (PyData.eqv (.tuple x) (.tuple y))))) := rfl
theorem neD_tt (x y : List PyData) (k : Rs → Prop) : neD (.tuple x) (.tuple y) k = (SeqAt.shaped (.tuple x) = true ∧ SeqAt.shaped (.tuple y) = true ∧ k (.d (.bool (!PyData.eqv (.tuple x) (.tuple y))))) := rfl
theorem eqD_bb (x y : Bool) (k : Rs → Prop) : eqD (.bool x) (.bool y) k = k (.d (.bool (x == y))) := by
  have h : eqD (.bool x) (.bool y) k = (SeqAt.shaped (.bool x) = true ∧ SeqAt.shaped (.bool y) = true ∧ k (.d (.bool (PyData.eqv (.bool x) (.bool y))))) := rfl
  rw [h]
  simp [SeqAt.shaped, PyData.canLay0, PyData.depth, PyData.eqv]
theorem neD_bb (x y : Bool) (k : Rs → Prop) : neD (.bool x) (.bool y) k = k (.d (.bool (!(x == y)))) := by
  have h : neD (.bool x) (.bool y) k = (SeqAt.shaped (.bool x) = true ∧ SeqAt.shaped (.bool y) = true ∧ k (.d (.bool (!PyData.eqv (.bool x) (.bool y))))) := rfl
  rw [h]
  simp [SeqAt.shaped, PyData.canLay0, PyData.depth, PyData.eqv]
theorem ixN_1_0 : ixN 1 0 = some 0 := by decide
theorem ixN_2_0 : ixN 2 0 = some 0 := by decide
theorem ixN_2_1 : ixN 2 1 = some 1 := by decide
theorem ixN_3_0 : ixN 3 0 = some 0 := by decide
theorem ixN_3_1 : ixN 3 1 = some 1 := by decide
theorem ixN_3_2 : ixN 3 2 = some 2 := by decide
theorem ixN_4_0 : ixN 4 0 = some 0 := by decide
theorem ixN_4_1 : ixN 4 1 = some 1 := by decide
theorem ixN_4_2 : ixN 4 2 = some 2 := by decide
theorem ixN_4_3 : ixN 4 3 = some 3 := by decide
local macro_rules | `(tactic| walk_at "dd") => `(tactic| simp only [sNext, sNever, sSeq, sBreak, sCont, sDrop, sRet, sRetN, sIf, sSet, sAsg, sAug, sAugS, sApp, sFor, sPar, setAll, dVar, dC, aVar, aOf, aNil, aCons, dOp, dUn, dTest, dAnd, dOr, dNot, dAndV, dOrV, dNotV, dIf, dChain, dNil, dCons, dLst, dTup, rNil, rCons, pNone, pSome, dSl, slD, dCB, dIsi, absK, intK, lenK, max2K, min2K, listK, tupleK, divmodK, strK, addD, subD, mulD, modD, fdivD, powD, ltD, leD, gtD, geD, iaddD, isND, notND, PyData.isNone, ixD, negD, revD, gN, gNilD, gConsD, gTupD, gSubD, iSeq, iRange1, iRange2, iEnumD, iZipD, dComp, tYesD, gs, ss, Sl.val, Opd.res, resAll, val_d, val_f, sl_d, sl_f, Ag.sl, agsOf, vix, putB, nrm, dCallN, dCallK, permL, dStart, repUn, dEnds, dRet, bix, List.map_cons, List.map_nil, List.cons_append, List.nil_append, List.length_cons, List.length_nil, forD, compD, wipeD, restD, Sl.keepD, if_true, if_false, ite_true, ite_false, ne_eq, not_false_eq_true, true_and, and_true, reduceCtorEq, Option.some.injEq, Nat.reduceAdd, Nat.reduceSub, Nat.reduceLT, Nat.reduceLeDiff, Nat.zero_lt_succ, Bool.false_eq_true, decide_eq_true_eq, isD_n, isD_b, isD_i, isD_s, isD_l, isD_t, eq_self, eqD_int, neD_int, eqD_ll, neD_ll, eqD_tt, neD_tt, eqD_bb, neD_bb, Bool.not_eq_true', decide_eq_false_iff_not, Bool.not_false, Bool.not_true, atI_0, atI_1, atI_2, atI_3, ixN_1_0, ixN_2_0, ixN_2_1, ixN_3_0, ixN_3_1, ixN_3_2, ixN_4_0, ixN_4_1, ixN_4_2, ixN_4_3, Int.reduceLE, Int.reduceLT, Int.toNat_zero, Int.reduceToNat, Int.reducePow, List.set_cons_zero, List.set_cons_succ, Int.reduceNeg, Int.toNat_one])

/-! ## The laws' own draws -/
/-- bits of a script's numbers, with room -/
def bigE : Nat := 1100000
theorem bigE_eq : bigE = 1100000 := rfl
/-- the state of a law's draws: at most n drawn -/
def Rng (xs : List PyData) (n : Int) : Prop := ∃ a b c : Int, xs = [.int a, .int b, .int c] ∧ 0 ≤ a ∧ a.natAbs < 2 ^ bigE ∧ 0 ≤ b ∧ b < 2147483647 ∧ 0 ≤ c ∧ c ≤ n

def S_law_stream : DSp := fun as R Q => ∃ (ns : List Int) (k : Int), as = [.d (.list (ns.map .int)), .d (.int k)] ∧ 0 ≤ k ∧ k ≤ 100 ∧ (∀ z ∈ ns, z.natAbs < 2 ^ bigE) ∧ ∀ xs, Rng xs 0 → Q (.f xs) []
def w_law_stream : TSd :=
  (sSeq (sSet 2 (dIf (dTest (dOp ltD (aVar 1) (aOf (dCB lenK (aCons (aVar 0) aNil))))) (dOp ixD (aVar 0) (aVar 1)) (dC (.int 0))))
  (sRet (dLst (dCons (dOp mulD (aOf (dCB absK (aCons (aVar 2) aNil))) (aOf (dCB intK (aCons (aOf (dOp geD (aOf (dCB absK (aCons (aVar 2) aNil))) (aOf (dOp powD (aOf (dC (.int 10))) (aOf (dC (.int 18))))))) aNil)))) (dCons (dOp modD (aOf (dOp mulD (aOf (dOp addD (aOf (dOp addD (aOf (dOp modD (aVar 2) (aOf (dC (.int 2147483629))))) (aOf (dOp mulD (aOf (dC (.int 32452843))) (aVar 1))))) (aOf (dC (.int 61))))) (aOf (dC (.int 48271))))) (aOf (dC (.int 2147483647)))) (dCons (dC (.int 0)) dNil))))))
theorem mul100 {i j : Int} (h1 : -1267650600228229401496703205376 < i) (h2 : i < 1267650600228229401496703205376) (h3 : -1267650600228229401496703205376 < j) (h4 : j < 1267650600228229401496703205376) : CMulX i j :=
  mulx_ok (a := 100) (b := 100) (by have : (2 : Nat) ^ 100 = 1267650600228229401496703205376 := by decide
                                    omega) (by have : (2 : Nat) ^ 100 = 1267650600228229401496703205376 := by decide
                                               omega) (by decide)
theorem mulBig {i j : Int} (h1 : i.natAbs < 2 ^ bigE) (h3 : -1267650600228229401496703205376 < j) (h4 : j < 1267650600228229401496703205376) : CMulX i j :=
  mulx_ok (a := bigE) (b := 100) h1 (by have : (2 : Nat) ^ 100 = 1267650600228229401496703205376 := by decide
                                        omega) (by rw [bigE_eq]; decide)
theorem cdiv_ok {i j : Int} (h0 : 0 < j) (h1 : j < 1267650600228229401496703205376) : CDivW i j :=
  wide_div h0 (b := 100) (by have : (2 : Nat) ^ 100 = 1267650600228229401496703205376 := by decide
                             omega) (by decide) (by decide)
theorem cpow_ok {i j : Int} (h : (0 ≤ j ∧ j ≤ 1000000) ∧ i.natAbs < 18446744073709551616) : CPow i j := ⟨h.1.1, h.1.2, h.2⟩
theorem atI_map {α β : Type} (f : α → β) (xs : List α) (i : Int) : atI (xs.map f) i = (atI xs i).map f := by
  unfold atI
  rw [List.length_map]
  cases ixN xs.length i with
  | none => rfl
  | some j => simp
theorem atI_mem {α : Type} {xs : List α} {i : Int} {z : α} (h : atI xs i = some z) : z ∈ xs := by
  unfold atI at h
  cases g : ixN xs.length i with
  | none => rw [g] at h; cases h
  | some j => rw [g] at h; exact List.mem_of_getElem? h
theorem atI_some {α : Type} {xs : List α} {i : Int} (h0 : 0 ≤ i) (h1 : i < (xs.length : Int)) : ∃ z, atI xs i = some z ∧ xs[i.toNat]? = some z := by
  have hi : i.toNat < xs.length := by omega
  refine ⟨xs[i.toNat], ?_, List.getElem?_eq_getElem hi⟩
  unfold atI ixN
  rw [if_pos h0, if_pos h1]
  exact List.getElem?_eq_getElem hi
theorem natAbs_ite (i : Int) : (if i < 0 then -i else i) = (i.natAbs : Int) := by split <;> omega
theorem b_law_stream (as : List Ag) (m : Addr) (R : RXc) (Q : Rs → List (List PyData) → Prop) (hl : as.length = 2) (h : S_law_stream as R Q) : w_law_stream (dEnds as m Q noR) (dStart 3 as m) := by
  obtain ⟨ns, k, rfl, h0, h1, hb, q⟩ := h
  unfold w_law_stream
  walk_at "dd"
  have fin : ∀ z : Int, z.natAbs < 2 ^ bigE → CPow 10 18 ∧ CMulX (if z < 0 then -z else z) (if (1000000000000000000 : Int) ≤ if z < 0 then -z else z then 1 else 0) ∧ CMulX 32452843 k ∧ CMulX (z % 2147483629 + 32452843 * k + 61) 48271 ∧
      Q (Rs.f [PyData.int ((if z < 0 then -z else z) * if (1000000000000000000 : Int) ≤ if z < 0 then -z else z then 1 else 0), PyData.int ((z % 2147483629 + 32452843 * k + 61) * 48271 % 2147483647), PyData.int 0]) [] := fun z hz => by
    rw [natAbs_ite]
    refine ⟨cpow_ok (by decide), ?_, mul100 (by decide) (by decide) (by omega) (by omega), mul100 (by omega) (by omega) (by decide) (by decide), q _ ?_⟩
    · split
      · exact mulBig (by omega) (by decide) (by decide)
      · exact mulBig (by omega) (by decide) (by decide)
    · refine ⟨_, _, _, rfl, ?_, ?_, by omega, by omega, by omega, by omega⟩
      · split <;> omega
      · split
        · rw [Int.mul_one]; omega
        · rw [Int.mul_zero]; exact Nat.pow_pos (by decide)
  rw [List.length_map, atI_map]
  split
  · rename_i hk
    obtain ⟨z, e1, e2⟩ := atI_some (xs := ns) h0 hk
    rw [e1]
    simp only [Option.map_some, Int.reduceLT, true_and]
    exact fin z (hb z (atI_mem e1))
  · exact fin 0 (by rw [Int.natAbs_zero]; exact Nat.pow_pos (by decide))

/-! ### a draw -/
def S_draw1 : DSp := fun as R Q => ∃ (xs : List PyData) (n span : Int), as = [.o xs, .d (.int span)] ∧ Rng xs n ∧ n ≤ 1000000000 ∧ 1 ≤ span ∧ span ≤ 10000000 ∧ ∀ z ys, 0 ≤ z → z < span → Rng ys (n + 1) → Q (.d (.int z)) [ys]
def S_law_draw : DSp := fun as R Q => ∃ (xs : List PyData) (n span : Int), as = [.o xs, .d (.int span)] ∧ Rng xs n ∧ n ≤ 999999999 ∧ 1 ≤ span ∧ span ≤ 100000000000000 ∧ ∀ z ys, 0 ≤ z → z < span → Rng ys (n + 2) → Q (.d (.int z)) [ys]
def w_law_draw (S_law_draw : DSp) : TSd :=
  (sSeq (sIf (dTest (dOp gtD (aOf (dOp ixD (aVar 0) (aOf (dC (.int 0))))) (aOf (dC (.int 0))))) (sSeq (sAsg (dCB divmodK (aCons (aOf (dOp ixD (aVar 0) (aOf (dC (.int 0))))) (aCons (aVar 1) aNil))) (gTupD 2 (gConsD (gSubD 0 (aOf (dC (.int 0)))) (gConsD (gN 2) gNilD))))
  (sRet (dVar 2))) sNext)
  (sSeq (sIf (dTest (dOp gtD (aVar 1) (aOf (dOp powD (aOf (dC (.int 10))) (aOf (dC (.int 7))))))) (sRet (dOp modD (aOf (dOp addD (aOf (dCallN 2 S_law_draw (aCons (aVar 0) (aCons (aOf (dOp powD (aOf (dC (.int 10))) (aOf (dC (.int 7))))) aNil)))) (aOf (dOp mulD (aOf (dOp powD (aOf (dC (.int 10))) (aOf (dC (.int 7))))) (aOf (dCallN 2 S_law_draw (aCons (aVar 0) (aCons (aOf (dOp addD (aOf (dOp fdivD (aOf (dOp subD (aVar 1) (aOf (dC (.int 1))))) (aOf (dOp powD (aOf (dC (.int 10))) (aOf (dC (.int 7))))))) (aOf (dC (.int 1))))) aNil)))))))) (aVar 1))) sNext)
  (sSeq (sAsg (dOp addD (aOf (dOp ixD (aVar 0) (aOf (dC (.int 2))))) (aOf (dC (.int 1)))) (gSubD 0 (aOf (dC (.int 2)))))
  (sSeq (sSet 3 (dOp addD (aOf (dC (.int 69621))) (aOf (dOp mulD (aOf (dOp ixD (aVar 0) (aOf (dC (.int 2))))) (aOf (dOp ixD (aVar 0) (aOf (dC (.int 2)))))))))
  (sSeq (sSet 4 (dOp modD (aOf (dOp mulD (aOf (dOp addD (aOf (dOp ixD (aVar 0) (aOf (dC (.int 1))))) (aOf (dOp mulD (aOf (dC (.int 39373))) (aOf (dOp ixD (aVar 0) (aOf (dC (.int 2))))))))) (aVar 3))) (aOf (dC (.int 2147483587)))))
  (sSeq (sSet 5 (dOp modD (aOf (dOp addD (aOf (dOp mulD (aVar 4) (aOf (dOp addD (aOf (dOp modD (aVar 4) (aOf (dC (.int 30011))))) (aOf (dC (.int 5))))))) (aOf (dOp ixD (aVar 0) (aOf (dC (.int 2))))))) (aOf (dC (.int 2147483563)))))
  (sRet (dOp modD (aOf (dOp fdivD (aOf (dOp modD (aOf (dOp mulD (aVar 5) (aOf (dOp addD (aOf (dOp modD (aVar 5) (aOf (dC (.int 1013))))) (aOf (dC (.int 3))))))) (aOf (dC (.int 998244353))))) (aOf (dC (.int 16))))) (aVar 1)))))))))
theorem b_draw1 (S : DSp) (as : List Ag) (m : Addr) (R : RXc) (Q : Rs → List (List PyData) → Prop) (hl : as.length = 2) (h : S_draw1 as R Q) : w_law_draw S (dEnds as m Q noR) (dStart 6 as m) := by
  obtain ⟨xs, n, span, rfl, ⟨a, b, c, rfl, a0, a1, b0, b1, c0, c1⟩, hn, s0, s1, q⟩ := h
  unfold w_law_draw
  walk_at "dd"
  by_cases ha : 0 < a
  · rw [if_pos ha]
    have hd : a / span ≤ a := by
      have := Int.ediv_le_self span a0
      exact this
    have hd0 : 0 ≤ a / span := Int.ediv_nonneg a0 (by omega)
    exact ⟨cdiv_ok (by omega) (by omega), _, rfl, q _ _ (Int.emod_nonneg _ (by omega)) (Int.emod_lt_of_pos _ (by omega)) ⟨_, _, _, rfl, hd0, by omega, b0, b1, c0, by omega⟩⟩
  · rw [if_neg ha]
    refine ⟨cpow_ok (by decide), ?_⟩
    rw [if_neg (by omega)]
    have hc2 : (c + 1) * (c + 1) ≤ 1000000001 * 1000000001 := Int.mul_le_mul (by omega) (by omega) (by omega) (by decide)
    have hc3 : 0 ≤ (c + 1) * (c + 1) := Int.mul_nonneg (by omega) (by omega)
    generalize hq : (c + 1) * (c + 1) = c2 at hc2 hc3
    have hb2 : b + 39373 * (c + 1) < 100000000000000 := by omega
    refine ⟨mul100 (by omega) (by omega) (by omega) (by omega), mul100 (by omega) (by omega) (by omega) (by omega), mul100 (by omega) (by omega) (by omega) (by omega), ?_⟩
    generalize hx : (b + 39373 * (c + 1)) * (69621 + c2) % 2147483587 = x
    have x0 : 0 ≤ x := by rw [← hx]; exact Int.emod_nonneg _ (by decide)
    have x1 : x < 2147483587 := by rw [← hx]; exact Int.emod_lt_of_pos _ (by decide)
    refine ⟨mul100 (by omega) (by omega) (by omega) (by omega), ?_⟩
    generalize hy : (x * (x % 30011 + 5) + (c + 1)) % 2147483563 = y
    have y0 : 0 ≤ y := by rw [← hy]; exact Int.emod_nonneg _ (by decide)
    have y1 : y < 2147483563 := by rw [← hy]; exact Int.emod_lt_of_pos _ (by decide)
    exact ⟨mul100 (by omega) (by omega) (by omega) (by omega), cdiv_ok (by decide) (by decide), by omega, _, rfl, q _ _ (Int.emod_nonneg _ (by omega)) (Int.emod_lt_of_pos _ (by omega)) ⟨_, _, _, rfl, a0, a1, b0, b1, by omega, by omega⟩⟩
/-- a draw of any span, over draws of small ones -/
theorem b_law_draw (as : List Ag) (m : Addr) (R : RXc) (Q : Rs → List (List PyData) → Prop) (hl : as.length = 2) (h : S_law_draw as R Q) : w_law_draw S_draw1 (dEnds as m Q noR) (dStart 6 as m) := by
  obtain ⟨xs, n, span, rfl, hr, hn, s0, s1, q⟩ := h
  by_cases hs : span ≤ 10000000
  · exact b_draw1 _ _ m R Q hl ⟨xs, n, span, rfl, hr, by omega, s0, hs, fun z ys h1 h2 ⟨a, b, c, e, r1, r2, r3, r4, r5, r6⟩ => q z ys h1 h2 ⟨a, b, c, e, r1, r2, r3, r4, r5, by omega⟩⟩
  obtain ⟨a, b, c, rfl, a0, a1, b0, b1, c0, c1⟩ := hr
  unfold w_law_draw
  walk_at "dd"
  by_cases ha : 0 < a
  · rw [if_pos ha]
    have hd : a / span ≤ a := Int.ediv_le_self span a0
    have hd0 : 0 ≤ a / span := Int.ediv_nonneg a0 (by omega)
    exact ⟨cdiv_ok (by omega) (by omega), _, rfl, q _ _ (Int.emod_nonneg _ (by omega)) (Int.emod_lt_of_pos _ (by omega)) ⟨_, _, _, rfl, hd0, by omega, b0, b1, c0, by omega⟩⟩
  · rw [if_neg ha]
    refine ⟨cpow_ok (by decide), ?_⟩
    rw [if_pos (by omega)]
    refine ⟨cpow_ok (by decide), _, n, _, rfl, ⟨a, b, c, rfl, a0, a1, b0, b1, c0, c1⟩, by omega, by decide, by decide, fun z ys z0 z1 hr => ?_⟩
    obtain ⟨a', b', c', rfl, a0', a1', b0', b1', c0', c1'⟩ := hr
    walk_at "dd"
    refine ⟨cpow_ok (by decide), cpow_ok (by decide), cdiv_ok (by decide) (by decide), _, n + 1, _, rfl, ⟨a', b', c', rfl, a0', a1', b0', b1', c0', c1'⟩, by omega, by omega, by omega, fun z2 ys2 z20 z21 hr2 => ?_⟩
    obtain ⟨a2, b2, c2, rfl, a02, a12, b02, b12, c02, c12⟩ := hr2
    walk_at "dd"
    exact ⟨mul100 (by decide) (by decide) (by omega) (by omega), by omega, _, rfl, q _ _ (Int.emod_nonneg _ (by omega)) (Int.emod_lt_of_pos _ (by omega)) ⟨_, _, _, rfl, a02, a12, b02, b12, c02, by omega⟩⟩
end LW

namespace LW
open PySem L2 DL
local macro_rules | `(tactic| walk_at "dd") => `(tactic| simp only [sNext, sNever, sSeq, sBreak, sCont, sDrop, sRet, sRetN, sIf, sSet, sAsg, sAug, sAugS, sApp, sFor, sPar, setAll, dVar, dC, aVar, aOf, aNil, aCons, dOp, dUn, dTest, dAnd, dOr, dNot, dAndV, dOrV, dNotV, dIf, dChain, dNil, dCons, dLst, dTup, rNil, rCons, pNone, pSome, dSl, slD, dCB, dIsi, absK, intK, lenK, max2K, min2K, listK, tupleK, divmodK, strK, addD, subD, mulD, modD, fdivD, powD, ltD, leD, gtD, geD, iaddD, isND, notND, PyData.isNone, ixD, negD, revD, gN, gNilD, gConsD, gTupD, gSubD, iSeq, iRange1, iRange2, iEnumD, iZipD, dComp, tYesD, gs, ss, Sl.val, Opd.res, resAll, val_d, val_f, sl_d, sl_f, Ag.sl, agsOf, vix, putB, nrm, dCallN, dCallK, permL, dStart, repUn, dEnds, dRet, bix, List.map_cons, List.map_nil, List.cons_append, List.nil_append, List.length_cons, List.length_nil, forD, compD, wipeD, restD, Sl.keepD, if_true, if_false, ite_true, ite_false, ne_eq, not_false_eq_true, true_and, and_true, reduceCtorEq, Option.some.injEq, Nat.reduceAdd, Nat.reduceSub, Nat.reduceLT, Nat.reduceLeDiff, Nat.zero_lt_succ, Bool.false_eq_true, decide_eq_true_eq, isD_n, isD_b, isD_i, isD_s, isD_l, isD_t, eq_self, eqD_int, neD_int, eqD_ll, neD_ll, eqD_tt, neD_tt, eqD_bb, neD_bb, Bool.not_eq_true', decide_eq_false_iff_not, Bool.not_false, Bool.not_true, atI_0, atI_1, atI_2, atI_3, ixN_1_0, ixN_2_0, ixN_2_1, ixN_3_0, ixN_3_1, ixN_3_2, ixN_4_0, ixN_4_1, ixN_4_2, ixN_4_3, Int.reduceLE, Int.reduceLT, Int.toNat_zero, Int.reduceToNat, Int.reducePow, List.set_cons_zero, List.set_cons_succ, Int.reduceNeg, Int.toNat_one])
abbrev ilD (ns : List Int) : List PyData := ns.map PyData.int
theorem Rng.up {xs : List PyData} {n n' : Int} (h : Rng xs n) (e : n ≤ n') : Rng xs n' := by
  obtain ⟨a, b, c, e1, h1, h2, h3, h4, h5, h6⟩ := h
  exact ⟨a, b, c, e1, h1, h2, h3, h4, h5, by omega⟩
/-! ### the script's cells -/
def S_law_fold : DSp := fun as R Q => ∃ (ns : List Int) (span : Int) (M : Nat), as = [.d (.list (ilD ns)), .d (.int span)] ∧ ns.length ≤ 63 ∧ 1 ≤ span ∧ span ≤ 63 ∧ (∀ z ∈ ns, z.natAbs ≤ M) ∧ M * 5000 < 2 ^ bigE ∧
  ∀ cs : List Int, cs.length ≤ 63 → (cs.length : Int) ≤ span → (∀ z ∈ cs, z.natAbs < 2 ^ bigE) → Q (.d (.list (ilD cs))) []
/-- _law_fold -/
def w_law_fold_g1 : TGd :=
  (gTupD 2 (gConsD (gN 3) (gConsD (gN 4) gNilD)))
def w_law_fold_b1 : TSd :=
  (sAsg (dOp addD (aOf (dOp ixD (aVar 2) (aOf (dOp modD (aVar 3) (aVar 1))))) (aOf (dOp mulD (aVar 4) (aOf (dOp addD (aVar 3) (aOf (dC (.int 2)))))))) (gSubD 2 (aOf (dOp modD (aVar 3) (aVar 1)))))
def w_law_fold : TSd :=
  (sSeq (sSet 2 (dCB listK (aCons (aOf (dSl (aVar 0) pNone (pSome (aVar 1)))) aNil)))
  (sSeq (sFor (iEnumD (dSl (aVar 0) (pSome (aVar 1)) (pSome (aOf (dC (.int 63)))))) w_law_fold_g1
  w_law_fold_b1)
  (sRet (dVar 2))))
theorem cut_ints (ns : List Int) (lo hi : Option Int) : cutD (ilD ns) lo hi = ilD ((ns.drop (HT.sIx ns.length 0 lo)).take (HT.sIx ns.length ns.length hi - HT.sIx ns.length 0 lo)) := by
  unfold cutD ilD
  rw [List.length_map, ← List.map_drop, ← List.map_take]
theorem sIx_i {n d : Nat} {v : Int} (h : 0 ≤ v) : HT.sIx n d (some v) = min v.toNat n := by
  show (if v < 0 then _ else _) = _
  rw [if_neg (by omega)]
theorem fold_loop (span : Int) (M : Nat) (h1 : 1 ≤ span) (D : DEnds) (x : PyData) (hM : M * 5000 < 2 ^ bigE) : ∀ (ns : List Int) (k : Nat) (cs : List Int) (s3 s4 : Sl), k + ns.length ≤ 63 → (∀ z ∈ ns, z.natAbs ≤ M) → (ns ≠ [] → (cs.length : Int) = span) → (∀ z ∈ cs, z.natAbs ≤ M * (1 + 66 * k)) →
    (∀ (cs' : List Int) (s3 s4 : Sl), cs'.length = cs.length → (∀ z ∈ cs', z.natAbs < 2 ^ bigE) → D.nx [.d x, .d (.int span), .o none (ilD cs'), s3, s4]) → forD w_law_fold_g1 w_law_fold_b1 D (enumD k (ilD ns)) [.d x, .d (.int span), .o none (ilD cs), s3, s4] := by
  intro ns
  induction ns with
  | nil =>
    intro k cs s3 s4 hk hn hl hc post
    refine post cs s3 s4 rfl fun z hz => ?_
    have := hc z hz
    have h2 : M * (1 + 66 * k) ≤ M * 5000 := Nat.mul_le_mul_left M (by simp at hk; omega)
    omega
  | cons n ns ih =>
    intro k cs s3 s4 hk hn hl hc post
    have hl' := hl (by simp)
    unfold w_law_fold_g1 w_law_fold_b1 ilD
    rw [List.map_cons, enumD, forD]
    walk_at "dd"
    simp only [List.length_cons] at hk
    have q0 : 0 ≤ (k : Int) % span := Int.emod_nonneg _ (by omega)
    have q1 : (k : Int) % span < span := Int.emod_lt_of_pos _ (by omega)
    obtain ⟨c, e1, e2⟩ := atI_some (xs := cs) q0 (by omega)
    have hj : ((k : Int) % span).toNat < cs.length := by omega
    rw [atI_map, e1, ixN_lit q0 (by rw [List.length_map]; omega)]
    have hc1 : c.natAbs ≤ M * (1 + 66 * k) := hc c (atI_mem e1)
    have hn1 : n.natAbs ≤ M := hn n (by simp)
    have hn2 : (n * ((k : Int) + 2)).natAbs ≤ M * 65 := by
      rw [Int.natAbs_mul]
      exact Nat.mul_le_mul hn1 (by omega)
    have hM3 : M * (1 + 66 * (k + 1)) = M * (1 + 66 * k) + M * 66 := by
      rw [← Nat.mul_add]
      congr 1
    have hb : M * (1 + 66 * k) ≤ M * 5000 := Nat.mul_le_mul_left M (by omega)
    refine ⟨by omega, mulBig (by omega) (by omega) (by omega), by omega, ?_⟩
    show forD w_law_fold_g1 w_law_fold_b1 D (enumD (k + 1) (ilD ns)) [.d x, .d (.int span), .o none ((List.map PyData.int cs).set _ (PyData.int _)), _, _]
    rw [← List.map_set]
    exact ih (k + 1) (cs.set ((k : Int) % span).toNat (c + n * ((k : Int) + 2))) _ _ (by omega) (fun z hz => hn z (by simp [hz])) (fun _ => by rw [List.length_set]; exact hl') (fun z hz => by
      rcases List.mem_or_eq_of_mem_set hz with hz | hz
      · have := hc z hz; omega
      · rw [hz]; omega) (fun cs' s3 s4 hl2 hz => post cs' s3 s4 (by rw [hl2, List.length_set]) hz)
theorem b_law_fold (as : List Ag) (m : Addr) (R : RXc) (Q : Rs → List (List PyData) → Prop) (hl : as.length = 2) (h : S_law_fold as R Q) : w_law_fold (dEnds as m Q noR) (dStart 5 as m) := by
  obtain ⟨ns, span, M, rfl, h1, h2, h3, h4, h5, q⟩ := h
  unfold w_law_fold
  walk_at "dd"
  rw [cut_ints, cut_ints]
  rw [sIx_i (by omega : (0 : Int) ≤ span), sIx_i (by omega : (0 : Int) ≤ span), sIx_i (by decide : (0 : Int) ≤ 63)]
  show forD w_law_fold_g1 w_law_fold_b1 _ _ _
  refine fold_loop span M h2 _ _ h5 _ 0 _ _ _ ?_ ?_ ?_ ?_ ?_
  · simp only [List.length_take, List.length_drop]; omega
  · exact fun z hz => h4 z (List.mem_of_mem_drop (List.mem_of_mem_take hz))
  · intro hne
    have hlen := List.length_pos_iff.mpr hne
    simp only [HT.sIx, List.length_take, List.length_drop] at hlen ⊢
    omega
  · exact fun z hz => by
      have := h4 z (List.mem_of_mem_drop (List.mem_of_mem_take hz))
      simpa using this
  · intro cs' s3 s4 hl2 hz
    walk_at "dd"
    simp only [HT.sIx, List.length_take, List.length_drop] at hl2
    exact q cs' (by omega) (by omega) hz
/-! ### a choice -/
def S_law_pick : DSp := fun as R Q => ∃ (xs ds : List PyData) (n : Int), as = [.o xs, .d (.list ds)] ∧ Rng xs n ∧ n ≤ 999999999 ∧ 1 ≤ ds.length ∧ ds.length ≤ 10000000 ∧ ∀ z ys, z ∈ ds → Rng ys (n + 2) → Q (.d z) [ys]
/-- _law_pick -/
def w_law_pick : TSd :=
  (sRet (dOp ixD (aVar 1) (aOf (dCallN 2 S_law_draw (aCons (aVar 0) (aCons (aOf (dCB lenK (aCons (aVar 1) aNil))) aNil))))))
theorem b_law_pick (as : List Ag) (m : Addr) (R : RXc) (Q : Rs → List (List PyData) → Prop) (hl : as.length = 2) (h : S_law_pick as R Q) : w_law_pick (dEnds as m Q noR) (dStart 2 as m) := by
  obtain ⟨xs, ds, n, rfl, hr, h1, h2, h3, q⟩ := h
  unfold w_law_pick
  walk_at "dd"
  refine ⟨_, n, _, rfl, hr, h1, by omega, by omega, fun z ys z0 z1 hy => ?_⟩
  obtain ⟨d, e1, e2⟩ := atI_some (xs := ds) z0 z1
  walk_at "dd"
  rw [e1]
  exact ⟨_, rfl, q d ys (atI_mem e1) hy⟩
/-! ### wells, states, moves as data -/
def grpD (g : Int × Int) : PyData := .tuple [.int g.1, .int g.2]
def wellD (lim : Int) (gs : List (Int × Int)) : PyData := .tuple [.int lim, .tuple (gs.map grpD)]
def stD (st : List Int) : PyData := .tuple (ilD st)
def mvD (m : Int × Int) : PyData := .tuple [.int m.1, .int m.2]
/-- ascending weights from above w on -/
def Asc : Int → List (Int × Int) → Prop
  | _, [] => True
  | w, g :: gs => w < g.1 ∧ Asc g.1 gs
structure WellOk (lim : Int) (gs : List (Int × Int)) : Prop where
  l0 : 1 ≤ lim
  l1 : lim ≤ 400000000000
  ne : 1 ≤ gs.length
  len : gs.length ≤ 14
  asc : Asc 0 gs
  wt : ∀ g ∈ gs, 1 ≤ g.1 ∧ g.1 ≤ 200000000000
  sz : ∀ g ∈ gs, 1 ≤ g.2 ∧ g.2 ≤ 10000000000000
/-- the same, lists and tuples alike -/
def SeqIs (x : PyData) (xs : List PyData) : Prop := x = .tuple xs ∨ x = .list xs
def GrpIs (x : PyData) (g : Int × Int) : Prop := SeqIs x [.int g.1, .int g.2]
def WellIs (x : PyData) (lim : Int) (gs : List (Int × Int)) : Prop := ∃ b bl, SeqIs x [.int lim, b] ∧ SeqIs b bl ∧ Paired GrpIs bl gs
theorem grps_self : ∀ gs : List (Int × Int), Paired GrpIs (gs.map grpD) gs
  | [] => .nil
  | g :: gs => .cons (.inl rfl) (grps_self gs)
theorem wellD_is (lim : Int) (gs : List (Int × Int)) : WellIs (wellD lim gs) lim gs := ⟨_, _, .inl rfl, .inl rfl, grps_self gs⟩
theorem stD_is (st : List Int) : SeqIs (stD st) (ilD st) := .inl rfl
theorem paired_atI {bl : List PyData} {gs : List (Int × Int)} (h : Paired GrpIs bl gs) {i : Int} {g : Int × Int} (e : atI gs i = some g) : ∃ y, atI bl i = some y ∧ GrpIs y g := by
  have len : bl.length = gs.length := Paired.length h
  unfold atI at e ⊢
  rw [len]
  cases q : ixN gs.length i with
  | none => rw [q] at e; cases e
  | some j =>
    rw [q] at e
    have get : ∀ (bl : List PyData) (gs : List (Int × Int)) (j : Nat) (g : Int × Int), Paired GrpIs bl gs → gs[j]? = some g → ∃ y, bl[j]? = some y ∧ GrpIs y g := fun bl gs j g h => by
      induction h generalizing j with
      | nil => intro e; simp at e
      | cons a _ ih =>
        intro e
        cases j with
        | zero => simp at e; subst e; exact ⟨_, rfl, a⟩
        | succ j => obtain ⟨y, h1, h2⟩ := ih j (by simpa using e); exact ⟨y, by simpa using h1, h2⟩
    exact get bl gs j g h e
/-! ### the weight of a group, by the law and by the program -/
def wtOf (gs : List (Int × Int)) (k : Int) : Int := if k < 0 then 0 else match gs[k.toNat]? with
  | some g => g.1
  | none => 0
def S_law_weight : DSp := fun as R Q => ∃ (x : PyData) (lim : Int) (gs : List (Int × Int)) (k : Int), as = [.d x, .d (.int k)] ∧ WellIs x lim gs ∧ k < (gs.length : Int) ∧ Q (.d (.int (wtOf gs k))) []
/-- _law_weight -/
def w_law_weight : TSd :=
  (sRet (dIf (dTest (dOp ltD (aVar 1) (aOf (dC (.int 0))))) (dC (.int 0)) (dOp ixD (aOf (dOp ixD (aOf (dOp ixD (aVar 0) (aOf (dC (.int 1))))) (aVar 1))) (aOf (dC (.int 0))))))
theorem b_law_weight (as : List Ag) (m : Addr) (R : RXc) (Q : Rs → List (List PyData) → Prop) (hl : as.length = 2) (h : S_law_weight as R Q) : w_law_weight (dEnds as m Q noR) (dStart 2 as m) := by
  obtain ⟨x, lim, gs, k, rfl, ⟨b, bl, hx, hb, hg⟩, hk, q⟩ := h
  unfold w_law_weight
  unfold wtOf at q
  by_cases h0 : k < 0
  · rw [if_pos h0] at q
    walk_at "dd"
    rw [if_pos h0]
    exact q
  · rw [if_neg h0] at q
    obtain ⟨g, e1, e2⟩ := atI_some (xs := gs) (i := k) (by omega) hk
    obtain ⟨y, e3, e4⟩ := paired_atI hg e1
    rw [e2] at q
    rcases hx with rfl | rfl <;> rcases hb with rfl | rfl <;> rcases e4 with rfl | rfl <;> (walk_at "dd"; rw [if_neg h0]; simp only [e3, atI_0]; exact q)
def S_weight_of : DSp := fun as R Q => ∃ (x : PyData) (lim : Int) (gs : List (Int × Int)) (k : Int), as = [.d x, .d (.int k)] ∧ WellIs x lim gs ∧ -1 ≤ k ∧ k < (gs.length : Int) ∧ Q (.d (.int (wtOf gs k))) []
/-- weight_of -/
def w_weight_of : TSd :=
  (sSeq (sIf (dTest (dOp eqD (aVar 1) (aOf (dUn negD (aOf (dC (.int 1))))))) (sRet (dC (.int 0))) sNext)
  (sSeq (sIf (dNot (dTest (dChain leD ltD (aOf (dC (.int 0))) (aVar 1) (aOf (dCB lenK (aCons (aOf (dOp ixD (aVar 0) (aOf (dC (.int 1))))) aNil)))))) sNever sNext)
  (sRet (dOp ixD (aOf (dOp ixD (aOf (dOp ixD (aVar 0) (aOf (dC (.int 1))))) (aVar 1))) (aOf (dC (.int 0)))))))
theorem b_weight_of (as : List Ag) (m : Addr) (R : RXc) (Q : Rs → List (List PyData) → Prop) (hl : as.length = 2) (h : S_weight_of as R Q) : w_weight_of (dEnds as m Q noR) (dStart 2 as m) := by
  obtain ⟨x, lim, gs, k, rfl, ⟨b, bl, hx, hb, hg⟩, hk0, hk, q⟩ := h
  unfold w_weight_of
  unfold wtOf at q
  have len : bl.length = gs.length := Paired.length hg
  by_cases h0 : k = -1
  · subst h0
    walk_at "dd"
    exact q
  · rw [if_neg (by omega)] at q
    obtain ⟨g, e1, e2⟩ := atI_some (xs := gs) (i := k) (by omega) hk
    obtain ⟨y, e3, e4⟩ := paired_atI hg e1
    rw [e2] at q
    rcases hx with rfl | rfl <;> rcases hb with rfl | rfl <;> rcases e4 with rfl | rfl <;> (walk_at "dd"; rw [if_neg h0, if_pos (show 0 ≤ k by omega), if_neg (show ¬ ¬ k < (bl.length : Int) by omega), e3]; exact q)
theorem o_well0 (lim : Int) (gs : List (Int × Int)) (k : Rs → Prop) : ixD (wellD lim gs) (.int 0) k = k (.d (.int lim)) := rfl
theorem o_well1 (lim : Int) (gs : List (Int × Int)) (k : Rs → Prop) : ixD (wellD lim gs) (.int 1) k = k (.d (.tuple (gs.map grpD))) := rfl
theorem seqT_g (n : Nat) (g : TGsd) (p : Int × Int) (δ : DSt) (Q : DSt → Prop) : seqD n g (grpD p) δ Q = (2 = n ∧ g [.int p.1, .int p.2] δ Q) := rfl
theorem o_grp0 (p : Int × Int) (k : Rs → Prop) : ixD (grpD p) (.int 0) k = k (.d (.int p.1)) := rfl
theorem o_grp1 (p : Int × Int) (k : Rs → Prop) : ixD (grpD p) (.int 1) k = k (.d (.int p.2)) := rfl
theorem seqT_m (n : Nat) (g : TGsd) (p : Int × Int) (δ : DSt) (Q : DSt → Prop) : seqD n g (mvD p) δ Q = (2 = n ∧ g [.int p.1, .int p.2] δ Q) := rfl
theorem o_mv0 (p : Int × Int) (k : Rs → Prop) : ixD (mvD p) (.int 0) k = k (.d (.int p.1)) := rfl
theorem o_mv1 (p : Int × Int) (k : Rs → Prop) : ixD (mvD p) (.int 1) k = k (.d (.int p.2)) := rfl
theorem o_st (st : List Int) (i : Int) (k : Rs → Prop) : ixD (stD st) (.int i) k = ixV (atI (ilD st) i) k := rfl
theorem c_listS (st : List Int) (k : Rs → Prop) : listK [stD st] k = k (.f (ilD st)) := rfl
theorem c_tupS (st : List Int) (k : Rs → Prop) : tupleK [stD st] k = k (.d (stD st)) := rfl
theorem c_lenS (st : List Int) (k : Rs → Prop) : lenK [stD st] k = k (.d (.int ((ilD st).length : Int))) := rfl
end LW

namespace LW
open PySem L2 DL
local macro_rules | `(tactic| walk_at "dd") => `(tactic| simp only [sNext, sNever, sSeq, sBreak, sCont, sDrop, sRet, sRetN, sIf, sSet, sAsg, sAug, sAugS, sApp, sFor, sPar, setAll, dVar, dC, aVar, aOf, aNil, aCons, dOp, dUn, dTest, dAnd, dOr, dNot, dAndV, dOrV, dNotV, dIf, dChain, dNil, dCons, dLst, dTup, rNil, rCons, pNone, pSome, dSl, slD, dCB, dIsi, absK, intK, lenK, max2K, min2K, listK, tupleK, divmodK, strK, addD, subD, mulD, modD, fdivD, powD, ltD, leD, gtD, geD, iaddD, isND, notND, PyData.isNone, ixD, negD, revD, gN, gNilD, gConsD, gTupD, gSubD, iSeq, iRange1, iRange2, iEnumD, iZipD, dComp, tYesD, gs, ss, Sl.val, Opd.res, resAll, val_d, val_f, sl_d, sl_f, Ag.sl, agsOf, vix, putB, nrm, dCallN, dCallK, permL, dStart, repUn, dEnds, dRet, bix, List.map_cons, List.map_nil, List.cons_append, List.nil_append, List.length_cons, List.length_nil, forD, compD, wipeD, restD, Sl.keepD, if_true, if_false, ite_true, ite_false, ne_eq, not_false_eq_true, true_and, and_true, reduceCtorEq, Option.some.injEq, Nat.reduceAdd, Nat.reduceSub, Nat.reduceLT, Nat.reduceLeDiff, Nat.zero_lt_succ, Bool.false_eq_true, decide_eq_true_eq, isD_n, isD_b, isD_i, isD_s, isD_l, isD_t, eq_self, eqD_int, neD_int, eqD_ll, neD_ll, eqD_tt, neD_tt, eqD_bb, neD_bb, Bool.not_eq_true', decide_eq_false_iff_not, Bool.not_false, Bool.not_true, atI_0, atI_1, atI_2, atI_3, ixN_1_0, ixN_2_0, ixN_2_1, ixN_3_0, ixN_3_1, ixN_3_2, ixN_4_0, ixN_4_1, ixN_4_2, ixN_4_3, Int.reduceLE, Int.reduceLT, Int.toNat_zero, Int.reduceToNat, Int.reducePow, List.set_cons_zero, List.set_cons_succ, Int.reduceNeg, Int.toNat_one])
/-! ### everything as lists -/
mutual
def asL : PyData → PyData
  | .list xs => .list (asLs xs)
  | .tuple xs => .list (asLs xs)
  | x => x
def asLs : List PyData → List PyData
  | [] => []
  | x :: xs => asL x :: asLs xs
end
theorem asLs_map : ∀ xs : List PyData, asLs xs = xs.map asL
  | [] => by simp [asLs]
  | x :: xs => by rw [asLs, asLs_map xs, List.map_cons]
theorem depth_lt : ∀ {xs : List PyData} {x : PyData} {n : Nat}, x ∈ xs → PyData.depthAll xs < n → x.depth < n
  | y :: ys, x, n, h, hd => by
    simp only [PyData.depthAll] at hd
    rcases List.mem_cons.mp h with h | h
    · subst h; omega
    · exact depth_lt h (by omega)
mutual
/-- data of moderate size, without dicts -/
def fit : PyData → Bool
  | .list xs => fits xs && decide (xs.length ≤ 1000000)
  | .tuple xs => fits xs && decide (xs.length ≤ 1000000)
  | .str x => PyData.canLay0 (.str x)
  | .dict _ => false
  | _ => true
def fits : List PyData → Bool
  | [] => true
  | x :: xs => fit x && fits xs
end
theorem fits_mem : ∀ {xs : List PyData} {x : PyData}, fits xs = true → x ∈ xs → fit x = true
  | y :: ys, x, h, m => by
    simp only [fits, Bool.and_eq_true] at h
    rcases List.mem_cons.mp m with m | m
    · subst m; exact h.1
    · exact fits_mem h.2 m
/-- a list or tuple becomes a new list -/
def asR : PyData → Rs
  | .list xs => .f (asLs xs)
  | .tuple xs => .f (asLs xs)
  | x => .d x
theorem asR_val (x : PyData) : (asR x).val = asL x := by cases x <;> rfl
def S_as_lists (n : Nat) : DSp := fun as R Q => ∃ x, as = [.d x] ∧ PyData.depth x < n ∧ fit x = true ∧ Q (asR x) []
/-- _law_as_lists -/
def w_law_as_lists_g1 (S_law_as_lists : DSp) : TGd :=
  (gN 1)
def w_law_as_lists_e1 (S_law_as_lists : DSp) : TD :=
  (dCallN 1 S_law_as_lists (aCons (aOf (dVar 1)) aNil))
def w_law_as_lists (S_law_as_lists : DSp) : TSd :=
  (sRet (dIf (dTest (dIsi ["list", "tuple"] (aVar 0))) (dComp [1] (iSeq (dVar 0)) (w_law_as_lists_g1 S_law_as_lists) tYesD (w_law_as_lists_e1 S_law_as_lists)) (dVar 0)))
theorem as_loop (n : Nat) (y : PyData) (Q : List PyData → DSt → Prop) : ∀ (xs acc : List PyData) (s : Sl), PyData.depthAll xs < n → fits xs = true → acc.length + xs.length ≤ 1000000 → (∀ s, Q (acc ++ asLs xs) [.d y, s]) →
    compD [1] (w_law_as_lists_g1 (S_as_lists n)) tYesD (w_law_as_lists_e1 (S_as_lists n)) xs acc [.d y, s] Q := by
  intro xs
  induction xs with
  | nil => intro acc s _ _ _ q; rw [asLs, List.append_nil] at q; exact q s
  | cons x xs ih =>
    intro acc s hd hf hl q
    simp only [PyData.depthAll] at hd
    simp only [fits, Bool.and_eq_true] at hf
    simp only [List.length_cons] at hl
    rw [compD]
    unfold w_law_as_lists_g1 w_law_as_lists_e1
    walk_at "dd"
    refine ⟨x, rfl, by omega, hf.1, by omega, ?_⟩
    rw [asR_val]
    refine ih (acc ++ [asL x]) _ (by omega) hf.2 (by rw [List.length_append]; simp only [List.length_cons, List.length_nil]; omega) fun s => ?_
    have := q s
    rw [asLs] at this
    rw [List.append_assoc]
    exact this
theorem isi_any2 (a b : String) (x : PyData) : ([a, b].any fun T => isiB T x) = (isiB a x || isiB b x) := by simp
theorem isi_any1 (a : String) (x : PyData) : ([a].any fun T => isiB T x) = isiB a x := by simp
theorem b_law_as_lists (n : Nat) (as : List Ag) (m : Addr) (R : RXc) (Q : Rs → List (List PyData) → Prop) (hl : as.length = 1) (h : S_as_lists (n + 1) as R Q) : w_law_as_lists (S_as_lists n) (dEnds as m Q noR) (dStart 2 as m) := by
  obtain ⟨x, rfl, hd, hf, q⟩ := h
  unfold w_law_as_lists
  walk_at "dd"
  rw [isi_any2]
  refine ⟨by cases x <;> first | rfl | simp [fit] at hf, ?_⟩
  cases x with
  | list xs =>
    simp only [PyData.depth] at hd
    simp only [fit, Bool.and_eq_true, decide_eq_true_eq] at hf
    rw [if_pos (by simp [isiB])]
    exact as_loop n _ _ xs [] _ (by omega) hf.1 (by simpa using hf.2) fun s => q
  | tuple xs =>
    simp only [PyData.depth] at hd
    simp only [fit, Bool.and_eq_true, decide_eq_true_eq] at hf
    rw [if_pos (by simp [isiB])]
    exact as_loop n _ _ xs [] _ (by omega) hf.1 (by simpa using hf.2) fun s => q
  | dict kvs => simp [fit] at hf
  | _ => exact q
/-! ### a thing is as wanted -/
def S_same (n : Nat) : DSp := fun as R Q => ∃ x, as = [.d x, .d x] ∧ PyData.depth x < n ∧ fit x = true ∧ Q (.d (.bool true)) []
/-- _law_same -/
def w_law_same_g1 (S_law_same : DSp) : TGd :=
  (gTupD 2 (gConsD (gN 2) (gConsD (gN 3) gNilD)))
def w_law_same_e1 (S_law_same : DSp) : TD :=
  (dCallN 2 S_law_same (aCons (aOf (dVar 2)) (aCons (aOf (dVar 3)) aNil)))
def w_law_same (S_law_same : DSp) : TSd :=
  (sSeq (sIf (dTest (dIsi ["list", "tuple"] (aVar 1))) (sSeq (sIf (dOr (dTest (dOp neD (aOf (dIsi ["list"] (aVar 0))) (aOf (dIsi ["list"] (aVar 1))))) (dTest (dOp neD (aOf (dIsi ["tuple"] (aVar 0))) (aOf (dIsi ["tuple"] (aVar 1)))))) (sRet (dC (.bool false))) sNext)
  (sRet (dAndV (dOp eqD (aOf (dCB lenK (aCons (aVar 0) aNil))) (aOf (dCB lenK (aCons (aVar 1) aNil)))) (dCB allK (aCons (aOf (dComp [2, 3] (iZipD (dVar 0) (dVar 1)) (w_law_same_g1 S_law_same) tYesD (w_law_same_e1 S_law_same))) aNil))))) sNext)
  (sSeq (sIf (dOr (dTest (dOp isND (aVar 1) (aOf (dC .none)))) (dTest (dIsi ["str"] (aVar 1)))) (sRet (dAndV (dOp eqD (aVar 0) (aVar 1)) (dOp eqD (aOf (dIsi ["str"] (aVar 0))) (aOf (dIsi ["str"] (aVar 1)))))) sNext)
  (sRet (dAndV (dIsi ["int"] (aVar 0)) (dAndV (dOp eqD (aOf (dIsi ["bool"] (aVar 0))) (aOf (dIsi ["bool"] (aVar 1)))) (dOp eqD (aVar 0) (aVar 1)))))))
theorem zipD_self : ∀ xs : List PyData, zipD xs xs = xs.map fun x => .tuple [x, x]
  | [] => rfl
  | x :: xs => by rw [zipD, zipD_self xs, List.map_cons]
theorem same_loop (n : Nat) (y z : PyData) (Q : List PyData → DSt → Prop) : ∀ (xs : List PyData) (bs : List Bool) (s s' : Sl), PyData.depthAll xs < n → fits xs = true → bs.length + xs.length ≤ 1000000 → bs.all id = true →
    (∀ s s' (bs : List Bool), bs.all id = true → Q (bs.map .bool) [.d y, .d z, s, s']) →
    compD [2, 3] (w_law_same_g1 (S_same n)) tYesD (w_law_same_e1 (S_same n)) (xs.map fun x => .tuple [x, x]) (bs.map .bool) [.d y, .d z, s, s'] Q := by
  intro xs
  induction xs with
  | nil => intro bs s s' _ _ _ hb q; exact q s s' bs hb
  | cons x xs ih =>
    intro bs s s' hd hf hl hb q
    simp only [PyData.depthAll] at hd
    simp only [fits, Bool.and_eq_true] at hf
    simp only [List.length_cons] at hl
    rw [List.map_cons, compD]
    unfold w_law_same_g1 w_law_same_e1
    walk_at "dd"
    refine ⟨x, rfl, by omega, hf.1, by rw [List.length_map]; omega, ?_⟩
    have := ih (bs ++ [true]) (.d x) (.d x) (by omega) hf.2 (by rw [List.length_append]; simp only [List.length_cons, List.length_nil]; omega) (by rw [List.all_append, hb]; rfl) q
    rw [List.map_append] at this
    exact this
theorem shaped_fit {x : PyData} {n : Nat} (hd : x.depth < n) (hn : n ≤ 40) (hf : fit x = true) : x.canLay0 = true → SeqAt.shaped x = true := fun h => by
  unfold SeqAt.shaped
  rw [h, Bool.true_and]
  exact decide_eq_true (by omega)
theorem b_law_same (n : Nat) (hn : n ≤ 30) (as : List Ag) (m : Addr) (R : RXc) (Q : Rs → List (List PyData) → Prop) (hl : as.length = 2) (h : S_same (n + 1) as R Q) : w_law_same (S_same n) (dEnds as m Q noR) (dStart 4 as m) := by
  obtain ⟨x, rfl, hd, hf, q⟩ := h
  unfold w_law_same
  cases x with
  | list xs =>
    simp only [PyData.depth] at hd
    simp only [fit, Bool.and_eq_true, decide_eq_true_eq] at hf
    walk_at "dd"
    rw [isi_any2, if_pos (by simp [isiB])]
    simp only [isi_any1, isiB, beq_self_eq_true, Bool.not_true, Bool.false_eq_true, if_false, zipD_self, decide_true, if_true]
    refine same_loop n _ _ _ xs [] .un .un (by omega) hf.1 (by simpa using hf.2) rfl fun s s' bs hb => ⟨bs, rfl, ?_⟩
    rw [hb]; exact q
  | tuple xs =>
    simp only [PyData.depth] at hd
    simp only [fit, Bool.and_eq_true, decide_eq_true_eq] at hf
    walk_at "dd"
    rw [isi_any2, if_pos (by simp [isiB])]
    simp only [isi_any1, isiB, beq_self_eq_true, Bool.not_true, Bool.false_eq_true, if_false, zipD_self, decide_true, if_true]
    refine same_loop n _ _ _ xs [] .un .un (by omega) hf.1 (by simpa using hf.2) rfl fun s s' bs hb => ⟨bs, rfl, ?_⟩
    rw [hb]; exact q
  | none =>
    walk_at "dd"
    simp only [isi_any2, isi_any1, isiB, Bool.or_false, Bool.false_eq_true, if_false, beq_self_eq_true]
    refine ⟨rfl, rfl, ?_⟩
    have he : PyData.eqv .none .none = true := by simp [PyData.eqv]
    rw [he]
    exact q
  | bool b =>
    walk_at "dd"
    simp [isi_any2, isi_any1, isiB]
    exact q
  | int i =>
    walk_at "dd"
    simp [isi_any2, isi_any1, isiB]
    exact q
  | str z =>
    walk_at "dd"
    simp only [isi_any2, isi_any1, isiB, beq_self_eq_true]
    show if decide (z = z) = true then Q (Rs.d (PyData.bool true)) [] else Q (Rs.d (PyData.bool false)) []
    rw [decide_eq_true rfl]
    exact q
  | dict kvs => simp [fit] at hf
/-! ### the weight at the bottom, its change -/
def heap : List (Int × Int) → List Int → Int
  | g :: gs, s :: st => g.1 * s + heap gs st
  | _, _ => 0
def chg : List (Int × Int) → List Int → List Int → List Int
  | g :: gs, s :: ss, t :: ts => (t - s) * g.1 :: chg gs ss ts
  | _, _, _ => []
theorem chg_sum : ∀ (gs : List (Int × Int)) (s t : List Int), s.length = gs.length → t.length = gs.length → (chg gs s t).sum = heap gs t - heap gs s
  | [], [], [], _, _ => rfl
  | g :: gs, a :: s, b :: t, h1, h2 => by
    rw [chg, List.sum_cons, chg_sum gs s t (by simpa using h1) (by simpa using h2), heap, heap, Int.sub_mul, Int.mul_comm b, Int.mul_comm a]
    omega
  | [], _ :: _, _, h, _ => by simp at h
  | [], [], _ :: _, _, h => by simp at h
  | _ :: _, [], _, h, _ => by simp at h
  | _ :: _, _ :: _, [], _, h => by simp at h
/-- numbers of people, weights: not too great -/
def Mod (ns : List Int) : Prop := ∀ z ∈ ns, 0 ≤ z ∧ z ≤ 20000000000000
def S_law_heaped : DSp := fun as R Q => ∃ (lim : Int) (gs : List (Int × Int)) (st : List Int), as = [.d (wellD lim gs), .d (stD st)] ∧ WellOk lim gs ∧ st.length = gs.length ∧ Mod st ∧ Q (.d (.int (heap gs st))) []
/-- _law_heaped -/
def w_law_heaped_g1 : TGd :=
  (gTupD 2 (gConsD (gN 2) (gConsD (gN 3) gNilD)))
def w_law_heaped_e1 : TD :=
  (dOp mulD (aOf (dOp ixD (aVar 2) (aOf (dC (.int 0))))) (aVar 3))
def w_law_heaped : TSd :=
  (sRet (dCB sumK (aCons (aOf (dComp [2, 3] (iZipD (dOp ixD (aVar 0) (aOf (dC (.int 1)))) (dVar 1)) w_law_heaped_g1 tYesD w_law_heaped_e1)) aNil)))
theorem heaped_loop (a b : PyData) (Q : List PyData → DSt → Prop) : ∀ (gs : List (Int × Int)) (st acc : List Int) (s s' : Sl), (∀ g ∈ gs, 1 ≤ g.1 ∧ g.1 ≤ 200000000000) → Mod st → st.length = gs.length → acc.length + gs.length ≤ 1000 →
    (∀ s s' zs, zs.sum = acc.sum + heap gs st → Q (ilD zs) [.d a, .d b, s, s']) → compD [2, 3] w_law_heaped_g1 tYesD w_law_heaped_e1 (zipD (gs.map grpD) (ilD st)) (ilD acc) [.d a, .d b, s, s'] Q := by
  intro gs
  induction gs with
  | nil => intro st acc s s' _ _ hl _ q; exact q s s' acc (by simp [heap])
  | cons g gs ih =>
    intro st acc s s' hw hm hl hn q
    obtain _ | ⟨t, st⟩ := st
    · simp at hl
    simp only [List.length_cons] at hl hn
    have hg := hw g (by simp)
    have ht := hm t (by simp)
    unfold ilD
    rw [List.map_cons, List.map_cons, zipD, compD]
    unfold w_law_heaped_g1 w_law_heaped_e1 grpD
    walk_at "dd"
    refine ⟨mul100 (by omega) (by omega) (by omega) (by omega), by rw [List.length_map]; omega, ?_⟩
    have := ih st (acc ++ [g.1 * t]) (.d (grpD g)) (.d (.int t)) (fun g hg => hw g (by simp [hg])) (fun z hz => hm z (by simp [hz])) (by omega) (by rw [List.length_append]; simp only [List.length_cons, List.length_nil]; omega) (fun s s' zs hz => q s s' zs (by
      rw [hz, List.sum_append, heap]
      simp only [List.sum_cons, List.sum_nil]
      omega))
    unfold ilD at this
    rw [List.map_append] at this
    exact this
theorem b_law_heaped (as : List Ag) (m : Addr) (R : RXc) (Q : Rs → List (List PyData) → Prop) (hl : as.length = 2) (h : S_law_heaped as R Q) : w_law_heaped (dEnds as m Q noR) (dStart 4 as m) := by
  obtain ⟨lim, gs, st, rfl, hw, hs, hm, q⟩ := h
  unfold w_law_heaped wellD stD
  walk_at "dd"
  refine heaped_loop _ _ _ gs st [] .un .un hw.wt hm hs (by have := hw.len; simp; omega) fun s s' zs hz => ?_
  refine ⟨zs, rfl, ?_⟩
  rw [hz]
  simpa using q
def S_weight_change : DSp := fun as R Q => ∃ (x y z : PyData) (lim : Int) (gs : List (Int × Int)) (s t : List Int), as = [.d x, .d y, .d z] ∧ WellIs x lim gs ∧ WellOk lim gs ∧ SeqIs y (ilD s) ∧ SeqIs z (ilD t) ∧ s.length = gs.length ∧ t.length = gs.length ∧ Mod s ∧ Mod t ∧ Q (.d (.int (chg gs s t).sum)) []
/-- weight_change -/
def w_weight_change_g1 : TGd :=
  (gN 3)
def w_weight_change_e1 : TD :=
  (dOp mulD (aOf (dOp subD (aOf (dOp ixD (aVar 2) (aVar 3))) (aOf (dOp ixD (aVar 1) (aVar 3))))) (aOf (dCallN 2 S_weight_of (aCons (aOf (dVar 0)) (aCons (aOf (dVar 3)) aNil)))))
def w_weight_change : TSd :=
  (sRet (dCB sumK (aCons (aOf (dComp [3] (iRange1 (aOf (dCB lenK (aCons (aOf (dOp ixD (aVar 0) (aOf (dC (.int 1))))) aNil)))) w_weight_change_g1 tYesD w_weight_change_e1)) aNil)))
theorem atI_app {α : Type} (a : List α) (x : α) (b : List α) : atI (a ++ x :: b) (a.length : Int) = some x := by
  obtain ⟨z, h1, h2⟩ := atI_some (xs := a ++ x :: b) (i := (a.length : Int)) (by omega) (by simp only [List.length_append, List.length_cons]; omega)
  rw [h1, ← h2]
  simp
theorem wtOf_app (a : List (Int × Int)) (g : Int × Int) (b : List (Int × Int)) : wtOf (a ++ g :: b) (a.length : Int) = g.1 := by
  unfold wtOf
  rw [if_neg (by omega)]
  simp
theorem wc_loop (x y z : PyData) (lim : Int) (gs0 : List (Int × Int)) (s0 t0 : List Int) (hx : WellIs x lim gs0) (hw : ∀ g ∈ gs0, 1 ≤ g.1 ∧ g.1 ≤ 200000000000) (hy : SeqIs y (ilD s0)) (hz : SeqIs z (ilD t0)) (Q : List PyData → DSt → Prop) : ∀ (gs : List (Int × Int)) (s t : List Int) (ga : List (Int × Int)) (sa ta acc : List Int) (sl : Sl),
    gs0 = ga ++ gs → s0 = sa ++ s → t0 = ta ++ t → sa.length = ga.length → ta.length = ga.length → s.length = gs.length → t.length = gs.length → Mod s → Mod t → acc.length + gs.length ≤ 1000 →
    (∀ sl, Q (ilD (acc ++ chg gs s t)) [.d x, .d y, .d z, sl]) → compD [3] w_weight_change_g1 tYesD w_weight_change_e1 (rangeD ga.length gs.length) (ilD acc) [.d x, .d y, .d z, sl] Q := by
  intro gs
  induction gs with
  | nil => intro s t ga sa ta acc sl _ _ _ _ _ h1 h2 _ _ _ q; cases s <;> cases t <;> simp [chg] at h1 h2 q; exact q sl
  | cons g gs ih =>
    intro s t ga sa ta acc sl e1 e2 e3 l1 l2 l3 l4 hm1 hm2 hn q
    obtain _ | ⟨a, s⟩ := s
    · simp at l3
    obtain _ | ⟨b, t⟩ := t
    · simp at l4
    simp only [List.length_cons] at l3 l4 hn
    have ha := hm1 a (by simp)
    have hb := hm2 b (by simp)
    have hg := hw g (by rw [e1]; simp)
    have q1 : atI (ilD s0) (ga.length : Int) = some (.int a) := by
      unfold ilD
      rw [atI_map, e2, ← l1, atI_app]
      rfl
    have q2 : atI (ilD t0) (ga.length : Int) = some (.int b) := by
      unfold ilD
      rw [atI_map, e3, ← l2, atI_app]
      rfl
    have q3 : wtOf gs0 (ga.length : Int) = g.1 := by rw [e1, wtOf_app]
    rw [List.length_cons, rangeD, compD]
    unfold w_weight_change_g1 w_weight_change_e1
    have next := ih s t (ga ++ [g]) (sa ++ [a]) (ta ++ [b]) (acc ++ [(b - a) * g.1]) (.d (.int (ga.length : Int))) (by rw [e1]; simp) (by rw [e2]; simp) (by rw [e3]; simp) (by simp [l1]) (by simp [l2]) (by omega) (by omega) (fun z hz => hm1 z (by simp [hz])) (fun z hz => hm2 z (by simp [hz])) (by rw [List.length_append]; simp only [List.length_cons, List.length_nil]; omega) (fun sl => by
      have := q sl
      rw [chg] at this
      rw [List.append_assoc]
      exact this)
    have hmul : CMulX (b - a) g.1 := mul100 (by omega) (by omega) (by omega) (by omega)
    have e4 : ((ga ++ [g]).length : Int) = (ga.length : Int) + 1 := by simp
    rw [e4] at next
    have e5 : ilD (acc ++ [(b - a) * g.1]) = ilD acc ++ [.int ((b - a) * g.1)] := by unfold ilD; rw [List.map_append]; rfl
    rw [e5] at next
    have hlen : (ilD acc).length < 16777216 := by unfold ilD; rw [List.length_map]; omega
    have hk : (ga.length : Int) < (gs0.length : Int) := by rw [e1]; simp only [List.length_append, List.length_cons]; omega
    rcases hy with rfl | rfl <;> rcases hz with rfl | rfl <;> (
      walk_at "dd"
      simp only [q1, q2, val_d]
      refine ⟨x, lim, gs0, _, rfl, hx, by omega, hk, ?_⟩
      rw [q3]
      exact ⟨hmul, hlen, next⟩)
theorem b_weight_change (as : List Ag) (m : Addr) (R : RXc) (Q : Rs → List (List PyData) → Prop) (hl : as.length = 3) (h : S_weight_change as R Q) : w_weight_change (dEnds as m Q noR) (dStart 4 as m) := by
  obtain ⟨x, y, z, lim, gs, s, t, rfl, hx, hw, hy, hz, ls, lt, ms, mt, q⟩ := h
  have hx' := hx
  obtain ⟨b, bl, hx1, hb, hg⟩ := hx'
  have len : bl.length = gs.length := Paired.length hg
  have hn := hw.len
  have fin : ∀ n : Int, n = (gs.length : Int) → compD [3] w_weight_change_g1 tYesD w_weight_change_e1 (rangeD 0 n.toNat) [] [.d x, .d y, .d z, .un] (fun acc δ2 => ∃ ns : List Int, acc = ns.map .int ∧ Q (.d (.int ns.sum)) []) := fun n e => by
    have e0 : n.toNat = gs.length := by omega
    rw [e0]
    exact wc_loop x y z lim gs s t hx hw.wt hy hz _ gs s t [] [] [] [] .un rfl rfl rfl rfl rfl ls lt ms mt (by simp; omega) fun sl => ⟨chg gs s t, rfl, q⟩
  unfold w_weight_change
  rcases hx1 with rfl | rfl <;> rcases hb with rfl | rfl <;> (
    walk_at "dd"
    refine ⟨⟨by omega, by omega⟩, ?_⟩
    exact fin _ (by rw [len]))
end LW

namespace LW
open PySem L2 DL
local macro_rules | `(tactic| walk_at "dd") => `(tactic| simp only [sNext, sNever, sSeq, sBreak, sCont, sDrop, sRet, sRetN, sIf, sSet, sAsg, sAug, sAugS, sApp, sFor, sPar, setAll, dVar, dC, aVar, aOf, aNil, aCons, dOp, dUn, dTest, dAnd, dOr, dNot, dAndV, dOrV, dNotV, dIf, dChain, dNil, dCons, dLst, dTup, rNil, rCons, pNone, pSome, dSl, slD, dCB, dIsi, absK, intK, lenK, max2K, min2K, listK, tupleK, divmodK, strK, addD, subD, mulD, modD, fdivD, powD, ltD, leD, gtD, geD, iaddD, isND, notND, PyData.isNone, ixD, negD, revD, gN, gNilD, gConsD, gTupD, gSubD, iSeq, iRange1, iRange2, iEnumD, iZipD, dComp, tYesD, gs, ss, Sl.val, Opd.res, resAll, val_d, val_f, sl_d, sl_f, Ag.sl, agsOf, vix, putB, nrm, dCallN, dCallK, permL, dStart, repUn, dEnds, dRet, bix, List.map_cons, List.map_nil, List.cons_append, List.nil_append, List.length_cons, List.length_nil, forD, compD, wipeD, restD, Sl.keepD, if_true, if_false, ite_true, ite_false, ne_eq, not_false_eq_true, true_and, and_true, reduceCtorEq, Option.some.injEq, Nat.reduceAdd, Nat.reduceSub, Nat.reduceLT, Nat.reduceLeDiff, Nat.zero_lt_succ, Bool.false_eq_true, decide_eq_true_eq, isD_n, isD_b, isD_i, isD_s, isD_l, isD_t, eq_self, eqD_int, neD_int, eqD_ll, neD_ll, eqD_tt, neD_tt, eqD_bb, neD_bb, Bool.not_eq_true', decide_eq_false_iff_not, Bool.not_false, Bool.not_true, atI_0, atI_1, atI_2, atI_3, ixN_1_0, ixN_2_0, ixN_2_1, ixN_3_0, ixN_3_1, ixN_3_2, ixN_4_0, ixN_4_1, ixN_4_2, ixN_4_3, Int.reduceLE, Int.reduceLT, Int.toNat_zero, Int.reduceToNat, Int.reducePow, List.set_cons_zero, List.set_cons_succ, Int.reduceNeg, Int.toNat_one])
local macro_rules | `(tactic| walk_at "ee") => `(tactic| simp only [↓asB_b, ↓with1_s, ↓with2_s, ↓asI_s, ↓withL_s, ↓withA_s, ↓putI_s, ↓subI_s, ↓as2I_s, ↓appV_s, ↓isO_o, ↓ev_var, ↓ev_vd, ↓ev_vo, ↓ev_c, ↓ev_avar, ↓ev_ad, ↓ev_ao, ↓ev_kz, ↓ev_of, ↓ev_kof, ↓ev_op, ↓ev_op1, ↓ev_op2, ↓ev_op3, ↓ev_un, ↓ev_un1, ↓ev_un2, ↓ev_test, ↓ev_ktest, ↓ev_and, ↓ev_kandT, ↓ev_kandF, ↓ev_or, ↓ev_korT, ↓ev_korF, ↓ev_not, ↓ev_knot, ↓ev_andV, ↓ev_kandV, ↓ev_kandVT, ↓ev_kandVF, ↓ev_orV, ↓ev_korV, ↓ev_korVT, ↓ev_korVF, ↓ev_notV, ↓ev_knotV, ↓ev_knotV2, ↓ev_ifE, ↓ev_kifET, ↓ev_kifEF, ↓ev_chain, ↓ev_ch1, ↓ev_ch2, ↓ev_ch2b, ↓ev_ch3, ↓ev_ch4T, ↓ev_ch4F, ↓ev_ch5, ↓ev_ch6, ↓ev_nil, ↓ev_cons, ↓ev_kcons, ↓ev_kcons2, ↓ev_lst, ↓ev_klst, ↓ev_tup, ↓ev_ktup, ↓ev_rnil, ↓ev_rcons, ↓ev_krcons, ↓ev_krcons2, ↓ev_anil, ↓ev_acons, ↓ev_kacons, ↓ev_kacons2, ↓ev_pnone, ↓ev_psome, ↓ev_kp, ↓ev_kp2, ↓ev_sl, ↓ev_sl1, ↓ev_sl2, ↓ev_sl3, ↓ev_sl4, ↓ev_slL, ↓ev_slT, ↓ev_cb, ↓ev_kcb, ↓ev_kcb2, ↓ev_isi, ↓ev_kisi, ↓ev_kisi2, ↓ev_call, ↓ev_kcall, ↓ev_callK, ↓ev_kcallK, ↓ev_kq, ↓ev_comp, ↓ev_kcomp, ↓ev_kcompE, ↓ev_compN, ↓ev_compC, ↓ev_kc1, ↓ev_kc2T, ↓ev_kc2F, ↓ev_kc3, ↓ev_yes, ↓ev_gn, ↓ev_gnil, ↓ev_gcons, ↓ev_kg, ↓ev_gtup, ↓ev_seqT, ↓ev_seqL, ↓ev_sub, ↓ev_ksub, ↓ev_iseq, ↓ev_kiseq, ↓ev_seqVL, ↓ev_seqVT, ↓ev_kqd, ↓ev_rg1, ↓ev_krg1, ↓ev_krg1b, ↓ev_rg2, ↓ev_krg2, ↓ev_krg2b, ↓ev_krg2c, ↓ev_en, ↓ev_ken, ↓ev_enL, ↓ev_zp, ↓ev_kzp, ↓ev_kzp2, ↓ev_zpL, ↓ev_zpT, ↓ev_snext, ↓ev_sseq, ↓ev_knx, ↓nx_set, ↓rt_set, ↓bk_set, ↓ct_set, ↓ex_set, ↓nx_for, ↓rt_for, ↓bk_for, ↓ct_for, ↓ex_for, ↓nx_end, ↓rt_end, ↓ex_end, ↓ev_sbrk, ↓ev_scont, ↓ev_sdrop, ↓ev_kdrop, ↓ev_sret, ↓ev_sretN, ↓ev_sif, ↓ev_kifT, ↓ev_kifF, ↓ev_sset, ↓ev_kset, ↓ev_sasg, ↓ev_kasg, ↓ev_saug, ↓ev_kaug, ↓ev_kaug2, ↓ev_kaug3, ↓ev_sapp, ↓ev_kapp, ↓ev_spar, ↓ev_kpar, ↓ev_sfor, ↓ev_kfori, ↓ev_forN, ↓ev_forC, ↓ev_kfor, ↓o_addI, ↓o_addL, ↓o_addT, ↓o_addS, ↓o_sub, ↓o_iadd, ↓o_mod, ↓o_fdiv, ↓o_pow, ↓o_mulI, ↓o_mulL, ↓o_mulT, ↓o_lt, ↓o_le, ↓o_gt, ↓o_ge, ↓o_isN, ↓o_notN, ↓n_none, ↓n_int, ↓n_bool, ↓n_str, ↓n_list, ↓n_tup, ↓o_neg, ↓o_rev, ↓ixV_s, ↓o_ixL, ↓o_ixT, ↓c_abs, ↓c_intI, ↓c_intB, ↓c_lenL, ↓c_lenT, ↓c_max2, ↓c_min2, ↓c_listL, ↓c_listT, ↓c_tupL, ↓c_tupT, ↓c_divmod, ↓c_str, ↓c_sum1, ↓c_max1, ↓c_min1, ↓c_all1, ↓c_any1, ↓g_0, ↓g_s, ↓s_0, ↓s_s, ↓v_un, ↓v_d, ↓v_o, ↓res_x, ↓res_v, ↓val_d, ↓val_f, ↓sl_d, ↓sl_f, ↓ag_d, ↓ag_o, ↓cons?_s, ↓ra_nil, ↓cons2?_s, ↓ra_cons, ↓ag_nil, ↓ag_x, ↓agV_s, ↓ag_v, ↓nr_nil, ↓nr_x, ↓nrV_d, ↓nrV_o, ↓nr_v, ↓vx_nil, ↓vx_x, ↓vx_v, ↓putV_o, ↓pb_0, ↓pb_1, ↓pl_nil, ↓pl_0, ↓pl_1, ↓pl_2, ↓pl_3, ↓rd_0, ↓bx_nil, ↓bx_d, ↓bx_o, ↓rd_o, ↓kd_un, ↓kd_d, ↓sa_nil, ↓sa_cons, ↓wp_nil, ↓wp_cons, ↓rs_nil, ↓rs_cons, ↓ev_lc2, ↓ev_klc2, ↓ev_c2N, ↓ev_c2C, ↓ev_k21, ↓ev_k22T, ↓ev_k22F, ↓ev_k23, ↓ev_k24, ↓c_repr, ↓c_sort, ↓ev_callP, ↓ev_peek, ↓ev_peek2, ↓ev_scal, ↓ev_callF, ↓ev_knew, ↓ev_kdat, ↓c_listS, ↓c_tupS, ↓c_lenS, ↓o_well0, ↓o_well1, ↓seqT_g, ↓o_grp0, ↓o_grp1, ↓seqT_m, ↓o_mv0, ↓o_mv1, ↓o_st, Rs.val, Rs.sl, Ag.sl, Opd.res, Sl.val, Sl.keepD, isD_n, isD_b, isD_i, isD_s, isD_l, isD_t, eq_self, eqD_int, neD_int, eqD_ll, neD_ll, eqD_tt, neD_tt, eqD_bb, neD_bb, atI_0, atI_1, atI_2, atI_3, ixN_1_0, ixN_2_0, ixN_2_1, ixN_3_0, ixN_3_1, ixN_3_2, ixN_4_0, ixN_4_1, ixN_4_2, ixN_4_3, dStart, repUn, tYesD, List.map_cons, List.map_nil, List.cons_append, List.nil_append, List.length_cons, List.length_nil, true_and, and_true, ne_eq, not_false_eq_true, reduceCtorEq, Option.some.injEq, Option.map_none, Option.map_some, Nat.reduceAdd, Nat.reduceSub, Nat.reduceLT, Nat.reduceLeDiff, Nat.zero_lt_succ, Nat.le_refl, Bool.not_true, Bool.not_false, decide_true, decide_false, Int.reduceLE, Int.reduceLT, Int.reduceEq, Int.toNat_zero, Int.reduceToNat, Int.reducePow, Int.reduceNeg, Int.toNat_one, List.set_cons_zero, List.set_cons_succ, List.not_mem_nil, List.mem_cons, false_or, or_false, forall_eq, forall_eq_or_imp, if_true, if_false, ite_true, ite_false, Bool.false_eq_true, forall_const, implies_true, false_implies])
/-! ### a random well -/
def S_law_random_well : DSp := fun as R Q => ∃ (xs : List PyData) (n len crowd : Int), as = [.o xs, .d (.int len), .d (.int crowd)] ∧ Rng xs n ∧ n ≤ 900000000 ∧ 1 ≤ len ∧ len ≤ 14 ∧ 1 ≤ crowd ∧ crowd ≤ 10000000000000 ∧
  ∀ lim gs ys, WellOk lim gs → (gs.length : Int) ≤ len → (∀ g ∈ gs, g.2 ≤ crowd) → Rng ys (n + 200) → Q (.d (wellD lim gs)) [ys]
/-- _law_random_well -/
def w_law_random_well_g1 : TGd :=
  (gN 9)
def w_law_random_well_e1 : TD :=
  (dOp ixD (aVar 9) (aOf (dC (.int 0))))
def w_law_random_well_g2 : TGd :=
  (gTupD 2 (gConsD (gN 9) (gConsD (gN 10) gNilD)))
def w_law_random_well_e2 : TD :=
  (dOp subD (aOf (dOp ixD (aVar 9) (aOf (dC (.int 0))))) (aVar 10))
def w_law_random_well_g3 : TGd :=
  (gN 6)
def w_law_random_well_b3 : TSd :=
  (sSeq (sSet 5 (dOp addD (aOf (dOp addD (aVar 5) (aOf (dC (.int 1))))) (aOf (dCallN 2 S_law_draw (aCons (aVar 0) (aCons (aOf (dVar 3)) aNil))))))
  (sApp 4 (dTup (dCons (dVar 5) (dCons (dCallN 2 S_law_pick (aCons (aVar 0) (aCons (aOf (dLst (dCons (dC (.int 1)) (dCons (dC (.int 1)) (dCons (dOp addD (aOf (dC (.int 1))) (aOf (dCallN 2 S_law_draw (aCons (aVar 0) (aCons (aOf (dVar 2)) aNil))))) dNil))))) aNil))) dNil)))))
def w_law_random_well : TSd :=
  (sSeq (sPar [3, 4, 5] (rCons (dCallN 2 S_law_pick (aCons (aVar 0) (aCons (aOf (dLst (dCons (dC (.int 2)) (dCons (dC (.int 4)) (dCons (dC (.int 9)) (dCons (dOp powD (aOf (dC (.int 10))) (aOf (dC (.int 10)))) dNil)))))) aNil))) (rCons (dLst dNil) (rCons (dC (.int 0)) rNil))))
  (sSeq (sFor (iRange1 (aOf (dOp addD (aOf (dC (.int 1))) (aOf (dCallN 2 S_law_draw (aCons (aVar 0) (aCons (aOf (dVar 1)) aNil))))))) w_law_random_well_g3
  w_law_random_well_b3)
  (sSeq (sSet 7 (dComp [9, 10] (iZipD (dVar 4) (dOp addD (aOf (dLst (dCons (dC (.int 0)) dNil))) (aOf (dComp [9] (iSeq (dVar 4)) w_law_random_well_g1 tYesD w_law_random_well_e1)))) w_law_random_well_g2 tYesD w_law_random_well_e2))
  (sSeq (sSet 8 (dLst (dCons (dCB maxK (aCons (aVar 7) aNil)) (dCons (dCB maxK (aCons (aVar 7) aNil)) (dCons (dCallN 2 S_law_pick (aCons (aVar 0) (aCons (aOf (dVar 7)) aNil))) (dCons (dOp addD (aOf (dC (.int 1))) (aOf (dCallN 2 S_law_draw (aCons (aVar 0) (aCons (aOf (dVar 5)) aNil))))) (dCons (dOp mulD (aOf (dC (.int 2))) (aOf (dCB maxK (aCons (aVar 7) aNil)))) (dCons (dVar 5) dNil))))))))
  (sRet (dTup (dCons (dCallN 2 S_law_pick (aCons (aVar 0) (aCons (aOf (dVar 8)) aNil))) (dCons (dCB tupleK (aCons (aVar 4) aNil)) dNil))))))))
/-- the weights ascend, above w, up to h -/
def Upto (gs : List (Int × Int)) (h : Int) : Prop := Asc 0 gs ∧ ∀ g ∈ gs, g.1 ≤ h
theorem asc_snoc : ∀ {gs : List (Int × Int)} {w : Int} {g : Int × Int}, Asc w gs → w < g.1 → (∀ x ∈ gs, x.1 < g.1) → Asc w (gs ++ [g])
  | [], w, g, _, h, _ => ⟨h, trivial⟩
  | x :: gs, w, g, a, h, hx => ⟨a.1, asc_snoc a.2 (hx x (by simp)) fun y hy => hx y (by simp [hy])⟩
theorem asc_pos : ∀ {gs : List (Int × Int)} {w : Int}, Asc w gs → ∀ g ∈ gs, w < g.1
  | x :: gs, w, a, g, h => by
    rcases List.mem_cons.mp h with h | h
    · rw [h]; exact a.1
    · have := asc_pos a.2 g h; have := a.1; omega
theorem rw_loop (m : Addr) (len crowd gt : Int) (D : DEnds) (h1 : 1 ≤ gt) (h2 : gt ≤ 10000000000) (h3 : 1 ≤ crowd) (h4 : crowd ≤ 10000000000000) (s7 s8 s9 s10 : Sl) : ∀ (n : Nat) (lo : Int) (xs : List PyData) (c : Int) (gs : List (Int × Int)) (h : Int) (s6 : Sl), Rng xs c → c + 6 * n ≤ 990000000 → 0 ≤ h → h ≤ 10000000001 * gs.length → gs.length + n ≤ 14 → Upto gs h →
    (∀ g ∈ gs, 1 ≤ g.2 ∧ g.2 ≤ crowd) →
    (∀ (xs : List PyData) (gs' : List (Int × Int)) (h : Int) (s6 : Sl), Rng xs (c + 6 * n) → gs'.length = gs.length + n → 0 ≤ h → h ≤ 10000000001 * gs'.length → Upto gs' h → (gs' ≠ [] → 1 ≤ h) → (∀ g ∈ gs', 1 ≤ g.2 ∧ g.2 ≤ crowd) → D.nx [.o (some m) xs, .d (.int len), .d (.int crowd), .d (.int gt), .o none (gs'.map grpD), .d (.int h), s6, s7, s8, s9, s10]) →
    forD w_law_random_well_g3 w_law_random_well_b3 D (rangeD lo n) [.o (some m) xs, .d (.int len), .d (.int crowd), .d (.int gt), .o none (gs.map grpD), .d (.int h), s6, s7, s8, s9, s10] := by
  intro n
  induction n with
  | zero =>
    intro lo xs c gs h s6 hr hc hh0 hh hg hu hs q
    refine q xs gs h s6 (hr.up (by omega)) rfl hh0 hh hu (fun ne => ?_) hs
    obtain _ | ⟨g, gs⟩ := gs
    · exact (ne rfl).elim
    · have a1 := asc_pos hu.1 g (by simp)
      have a2 := hu.2 g (by simp)
      omega
  | succ n ih =>
    intro lo xs c gs h s6 hr hc hh0 hh hg hu hs q
    rw [rangeD, forD]
    unfold w_law_random_well_g3 w_law_random_well_b3
    walk_at "dd"
    refine ⟨xs, c, gt, rfl, hr, by omega, h1, by omega, fun z ys z0 z1 hr1 => ?_⟩
    walk_at "dd"
    refine ⟨⟨_, _, rfl⟩, ys, c + 2, crowd, rfl, hr1, by omega, by omega, by omega, fun z2 ys2 z20 z21 hr2 => ?_⟩
    walk_at "dd"
    refine ⟨ys2, _, c + 2 + 2, rfl, hr2, by omega, by simp, by simp, fun d ys3 hd hr3 => ?_⟩
    walk_at "dd"
    have hd' : ∃ sz : Int, d = .int sz ∧ 1 ≤ sz ∧ sz ≤ crowd := by
      simp only [List.mem_cons, List.not_mem_nil, or_false] at hd
      rcases hd with rfl | rfl | rfl
      · exact ⟨1, rfl, by omega, by omega⟩
      · exact ⟨1, rfl, by omega, by omega⟩
      · exact ⟨1 + z2, rfl, by omega, by omega⟩
    obtain ⟨sz, rfl, sz0, sz1⟩ := hd'
    refine ⟨by rw [List.length_map]; omega, ?_⟩
    have next := ih (lo + 1) ys3 (c + 6) (gs ++ [(h + 1 + z, sz)]) (h + 1 + z) (.d (.int lo)) (hr3.up (by omega)) (by omega) (by omega) (by simp only [List.length_append, List.length_cons, List.length_nil]; omega) (by simp only [List.length_append, List.length_cons, List.length_nil]; omega)
      ⟨asc_snoc hu.1 (by show 0 < h + 1 + z; omega) (fun x hx => by have := hu.2 x hx; show x.1 < h + 1 + z; omega), fun x hx => by
        rcases List.mem_append.mp hx with hx | hx
        · have := hu.2 x hx; omega
        · simp only [List.mem_singleton] at hx; rw [hx]; exact Int.le_refl _⟩ (fun g hg => by
        rcases List.mem_append.mp hg with hg | hg
        · exact hs g hg
        · simp only [List.mem_singleton] at hg; rw [hg]; exact ⟨sz0, sz1⟩) (fun xs gs' h' s6 r1 r2 r3 r4 r5 r6 r7 => q xs gs' h' s6 (r1.up (by omega)) (by rw [r2]; simp only [List.length_append, List.length_cons, List.length_nil]; omega) r3 r4 r5 r6 r7)
    rw [List.map_append] at next
    exact next
/-- the gaps -/
def gapsOf : Int → List (Int × Int) → List Int
  | _, [] => []
  | w, g :: gs => (g.1 - w) :: gapsOf g.1 gs
theorem gaps_len : ∀ (gs : List (Int × Int)) (w : Int), (gapsOf w gs).length = gs.length
  | [], _ => rfl
  | g :: gs, w => by rw [gapsOf, List.length_cons, gaps_len gs, List.length_cons]
theorem gaps_rng {hi : Int} : ∀ {gs : List (Int × Int)} {w : Int}, 0 ≤ w → Asc w gs → (∀ g ∈ gs, g.1 ≤ hi) → ∀ z ∈ gapsOf w gs, 1 ≤ z ∧ z ≤ hi
  | g :: gs, w, w0, a, h, z, hz => by
    rw [gapsOf] at hz
    have a1 := a.1
    rcases List.mem_cons.mp hz with hz | hz
    · have := h g (by simp); omega
    · exact gaps_rng (by omega) a.2 (fun g hg => h g (by simp [hg])) z hz
theorem rw_c1 (s0 s1 s2 s3 s4 s5 s6 s7 s8 s10 : Sl) (Q : List PyData → DSt → Prop) : ∀ (gr : List (Int × Int)) (acc : List Int) (s9 : Sl), acc.length + gr.length ≤ 1000 → (∀ s9, Q (ilD (acc ++ gr.map (·.1))) [s0, s1, s2, s3, s4, s5, s6, s7, s8, s9, s10]) →
    compD [9] w_law_random_well_g1 tYesD w_law_random_well_e1 (gr.map grpD) (ilD acc) [s0, s1, s2, s3, s4, s5, s6, s7, s8, s9, s10] Q := by
  intro gr
  induction gr with
  | nil => intro acc s9 _ q; simp only [List.map_nil, List.append_nil] at q; exact q s9
  | cons g gr ih =>
    intro acc s9 hl q
    simp only [List.length_cons] at hl
    rw [List.map_cons, compD]
    unfold w_law_random_well_g1 w_law_random_well_e1 grpD
    walk_at "dd"
    refine ⟨by unfold ilD; rw [List.length_map]; omega, ?_⟩
    have := ih (acc ++ [g.1]) (.d (grpD g)) (by simp only [List.length_append, List.length_cons, List.length_nil]; omega) (fun s9 => by
      have := q s9
      rw [List.append_assoc]
      exact this)
    unfold ilD at this ⊢
    rw [List.map_append] at this
    exact this
theorem rw_c2 (s0 s1 s2 s3 s4 s5 s6 s7 s8 : Sl) (Q : List PyData → DSt → Prop) : ∀ (gr : List (Int × Int)) (w : Int) (rest acc : List Int) (s9 s10 : Sl), acc.length + gr.length ≤ 1000 → (∀ s9 s10, Q (ilD (acc ++ gapsOf w gr)) [s0, s1, s2, s3, s4, s5, s6, s7, s8, s9, s10]) →
    compD [9, 10] w_law_random_well_g2 tYesD w_law_random_well_e2 (zipD (gr.map grpD) (.int w :: ilD (gr.map (·.1)))) (ilD acc) [s0, s1, s2, s3, s4, s5, s6, s7, s8, s9, s10] Q := by
  intro gr
  induction gr with
  | nil => intro w rest acc s9 s10 _ q; simp only [gapsOf, List.append_nil] at q; exact q s9 s10
  | cons g gr ih =>
    intro w rest acc s9 s10 hl q
    simp only [List.length_cons] at hl
    rw [List.map_cons, zipD, compD]
    unfold w_law_random_well_g2 w_law_random_well_e2 grpD
    walk_at "dd"
    refine ⟨by unfold ilD; rw [List.length_map]; omega, ?_⟩
    have := ih g.1 rest (acc ++ [g.1 - w]) (.d (grpD g)) (.d (.int w)) (by simp only [List.length_append, List.length_cons, List.length_nil]; omega) (fun s9 s10 => by
      have := q s9 s10
      rw [gapsOf] at this
      rw [List.append_assoc]
      exact this)
    unfold ilD at this ⊢
    rw [List.map_append] at this
    exact this
theorem b_law_random_well (as : List Ag) (m : Addr) (R : RXc) (Q : Rs → List (List PyData) → Prop) (hl : as.length = 3) (h : S_law_random_well as R Q) : w_law_random_well (dEnds as m Q noR) (dStart 11 as m) := by
  obtain ⟨xs, n, len, crowd, rfl, hr, hn, l0, l1, c0, c1, q⟩ := h
  unfold w_law_random_well
  walk_at "ee"
  refine ⟨cpow_ok (by decide), _, _, n, rfl, hr, by omega, by simp, by simp, fun d ys hd hr1 => ?_⟩
  have hd' : ∃ gt : Int, d = .int gt ∧ 1 ≤ gt ∧ gt ≤ 10000000000 := by
    simp only [List.mem_cons, List.not_mem_nil, or_false] at hd
    rcases hd with rfl | rfl | rfl | rfl
    · exact ⟨2, rfl, by decide, by decide⟩
    · exact ⟨4, rfl, by decide, by decide⟩
    · exact ⟨9, rfl, by decide, by decide⟩
    · exact ⟨10000000000, rfl, by decide, by decide⟩
  obtain ⟨gt, rfl, gt0, gt1⟩ := hd'
  walk_at "ee"
  refine ⟨ys, n + 2, len, rfl, hr1, by omega, l0, by omega, fun z1 ys1 z10 z11 hr2 => ?_⟩
  walk_at "ee"
  refine ⟨by unfold okRg; omega, ?_⟩
  refine rw_loop m len crowd gt _ gt0 gt1 c0 c1 _ _ _ _ (1 + z1).toNat 0 ys1 (n + 4) [] 0 _ (hr2.up (by omega)) (by omega) (by omega) (by simp) (by simp only [List.length_nil]; omega) ⟨trivial, fun g hg => by simp at hg⟩ (fun g hg => by simp at hg) (fun xs2 gs' hv s6 hr3 gl hv0 hv1 hu hv2 hs => ?_)
  simp only [List.length_nil, Nat.zero_add] at gl
  walk_at "ee"
  have gl14 : (gs'.length : Int) ≤ len := by omega
  have g0 : 1 ≤ gs'.length := by omega
  have hv3 : 1 ≤ hv := hv2 (fun e => by rw [e] at g0; simp at g0)
  clear hv2
  refine rw_c1 _ _ _ _ _ _ _ _ _ _ _ gs' [] .un (by simp only [List.length_nil]; omega) (fun s9 => ?_)
  rw [List.nil_append]
  walk_at "ee"
  refine ⟨by unfold ilD; simp only [List.length_map]; omega, ?_⟩
  refine rw_c2 _ _ _ _ _ _ _ _ _ _ gs' 0 [] [] .un .un (by simp only [List.length_nil]; omega) (fun s9 s10 => ?_)
  rw [List.nil_append]
  walk_at "ee"
  have gr := gaps_rng (by omega) hu.1 hu.2
  have gle := gaps_len gs' 0
  generalize gapsOf 0 gs' = gaps at gr gle ⊢
  have hu1 := hu.1
  have hu2 := hu.2
  clear hu
  refine ⟨gaps, rfl, by omega, fun m1 hm1 _ => ⟨gaps, rfl, by omega, fun m2 hm2 _ => ?_⟩⟩
  refine ⟨xs2, _, _, rfl, hr3, by omega, by unfold ilD; rw [List.length_map]; omega, by unfold ilD; rw [List.length_map]; omega, fun d ys3 hd3 hr4 => ?_⟩
  obtain ⟨p, hp, rfl⟩ := List.mem_map.mp hd3
  walk_at "ee"
  refine ⟨ys3, _, hv, rfl, hr4, by omega, hv3, by omega, fun z2 ys4 z20 z21 hr5 => ?_⟩
  walk_at "ee"
  refine ⟨gaps, rfl, by omega, fun m3 hm3 _ => ?_⟩
  have b1 := gr m1 hm1
  have b2 := gr m2 hm2
  have b3 := gr m3 hm3
  have b4 := gr p hp
  refine ⟨mul100 (by omega) (by omega) (by omega) (by omega), ys4, _, _, rfl, hr5, by omega, by simp, by simp, fun d ys5 hd5 hr6 => ?_⟩
  have hd' : ∃ lim : Int, d = .int lim ∧ 1 ≤ lim ∧ lim ≤ 2 * hv := by
    simp only [List.mem_cons, List.not_mem_nil, or_false] at hd5
    rcases hd5 with rfl | rfl | rfl | rfl | rfl | rfl
    · exact ⟨_, rfl, by omega, by omega⟩
    · exact ⟨_, rfl, by omega, by omega⟩
    · exact ⟨_, rfl, by omega, by omega⟩
    · exact ⟨_, rfl, by omega, by omega⟩
    · exact ⟨_, rfl, by omega, by omega⟩
    · exact ⟨_, rfl, by omega, by omega⟩
  obtain ⟨lim, rfl, lim0, lim1⟩ := hd'
  walk_at "ee"
  refine q lim gs' ys5 ⟨lim0, by omega, g0, by omega, hu1, fun g hg => ?_, fun g hg => ?_⟩ gl14 (fun g hg => (hs g hg).2) (hr6.up (by omega))
  · have := asc_pos hu1 g hg
    have := hu2 g hg
    omega
  · have := hs g hg
    omega
end LW

namespace LW
open PySem L2 DL
local macro_rules | `(tactic| walk_at "ee") => `(tactic| simp only [↓asB_b, ↓with1_s, ↓with2_s, ↓asI_s, ↓withL_s, ↓withA_s, ↓putI_s, ↓subI_s, ↓as2I_s, ↓appV_s, ↓isO_o, ↓ev_var, ↓ev_vd, ↓ev_vo, ↓ev_c, ↓ev_avar, ↓ev_ad, ↓ev_ao, ↓ev_kz, ↓ev_of, ↓ev_kof, ↓ev_op, ↓ev_op1, ↓ev_op2, ↓ev_op3, ↓ev_un, ↓ev_un1, ↓ev_un2, ↓ev_test, ↓ev_ktest, ↓ev_and, ↓ev_kandT, ↓ev_kandF, ↓ev_or, ↓ev_korT, ↓ev_korF, ↓ev_not, ↓ev_knot, ↓ev_andV, ↓ev_kandV, ↓ev_kandVT, ↓ev_kandVF, ↓ev_orV, ↓ev_korV, ↓ev_korVT, ↓ev_korVF, ↓ev_notV, ↓ev_knotV, ↓ev_knotV2, ↓ev_ifE, ↓ev_kifET, ↓ev_kifEF, ↓ev_chain, ↓ev_ch1, ↓ev_ch2, ↓ev_ch2b, ↓ev_ch3, ↓ev_ch4T, ↓ev_ch4F, ↓ev_ch5, ↓ev_ch6, ↓ev_nil, ↓ev_cons, ↓ev_kcons, ↓ev_kcons2, ↓ev_lst, ↓ev_klst, ↓ev_tup, ↓ev_ktup, ↓ev_rnil, ↓ev_rcons, ↓ev_krcons, ↓ev_krcons2, ↓ev_anil, ↓ev_acons, ↓ev_kacons, ↓ev_kacons2, ↓ev_pnone, ↓ev_psome, ↓ev_kp, ↓ev_kp2, ↓ev_sl, ↓ev_sl1, ↓ev_sl2, ↓ev_sl3, ↓ev_sl4, ↓ev_slL, ↓ev_slT, ↓ev_cb, ↓ev_kcb, ↓ev_kcb2, ↓ev_isi, ↓ev_kisi, ↓ev_kisi2, ↓ev_call, ↓ev_kcall, ↓ev_callK, ↓ev_kcallK, ↓ev_kq, ↓ev_comp, ↓ev_kcomp, ↓ev_kcompE, ↓ev_compN, ↓ev_compC, ↓ev_kc1, ↓ev_kc2T, ↓ev_kc2F, ↓ev_kc3, ↓ev_yes, ↓ev_gn, ↓ev_gnil, ↓ev_gcons, ↓ev_kg, ↓ev_gtup, ↓ev_seqT, ↓ev_seqL, ↓ev_sub, ↓ev_ksub, ↓ev_iseq, ↓ev_kiseq, ↓ev_seqVL, ↓ev_seqVT, ↓ev_kqd, ↓ev_rg1, ↓ev_krg1, ↓ev_krg1b, ↓ev_rg2, ↓ev_krg2, ↓ev_krg2b, ↓ev_krg2c, ↓ev_en, ↓ev_ken, ↓ev_enL, ↓ev_zp, ↓ev_kzp, ↓ev_kzp2, ↓ev_zpL, ↓ev_zpT, ↓ev_snext, ↓ev_sseq, ↓ev_knx, ↓nx_set, ↓rt_set, ↓bk_set, ↓ct_set, ↓ex_set, ↓nx_for, ↓rt_for, ↓bk_for, ↓ct_for, ↓ex_for, ↓nx_end, ↓rt_end, ↓ex_end, ↓ev_sbrk, ↓ev_scont, ↓ev_sdrop, ↓ev_kdrop, ↓ev_sret, ↓ev_sretN, ↓ev_sif, ↓ev_kifT, ↓ev_kifF, ↓ev_sset, ↓ev_kset, ↓ev_sasg, ↓ev_kasg, ↓ev_saug, ↓ev_kaug, ↓ev_kaug2, ↓ev_kaug3, ↓ev_sapp, ↓ev_kapp, ↓ev_spar, ↓ev_kpar, ↓ev_sfor, ↓ev_kfori, ↓ev_forN, ↓ev_forC, ↓ev_kfor, ↓o_addI, ↓o_addL, ↓o_addT, ↓o_addS, ↓o_sub, ↓o_iadd, ↓o_mod, ↓o_fdiv, ↓o_pow, ↓o_mulI, ↓o_mulL, ↓o_mulT, ↓o_lt, ↓o_le, ↓o_gt, ↓o_ge, ↓o_isN, ↓o_notN, ↓n_none, ↓n_int, ↓n_bool, ↓n_str, ↓n_list, ↓n_tup, ↓o_neg, ↓o_rev, ↓ixV_s, ↓o_ixL, ↓o_ixT, ↓c_abs, ↓c_intI, ↓c_intB, ↓c_lenL, ↓c_lenT, ↓c_max2, ↓c_min2, ↓c_listL, ↓c_listT, ↓c_tupL, ↓c_tupT, ↓c_divmod, ↓c_str, ↓c_sum1, ↓c_max1, ↓c_min1, ↓c_all1, ↓c_any1, ↓g_0, ↓g_s, ↓s_0, ↓s_s, ↓v_un, ↓v_d, ↓v_o, ↓res_x, ↓res_v, ↓val_d, ↓val_f, ↓sl_d, ↓sl_f, ↓ag_d, ↓ag_o, ↓cons?_s, ↓ra_nil, ↓cons2?_s, ↓ra_cons, ↓ag_nil, ↓ag_x, ↓agV_s, ↓ag_v, ↓nr_nil, ↓nr_x, ↓nrV_d, ↓nrV_o, ↓nr_v, ↓vx_nil, ↓vx_x, ↓vx_v, ↓putV_o, ↓pb_0, ↓pb_1, ↓pl_nil, ↓pl_0, ↓pl_1, ↓pl_2, ↓pl_3, ↓rd_0, ↓bx_nil, ↓bx_d, ↓bx_o, ↓rd_o, ↓kd_un, ↓kd_d, ↓sa_nil, ↓sa_cons, ↓wp_nil, ↓wp_cons, ↓rs_nil, ↓rs_cons, ↓ev_lc2, ↓ev_klc2, ↓ev_c2N, ↓ev_c2C, ↓ev_k21, ↓ev_k22T, ↓ev_k22F, ↓ev_k23, ↓ev_k24, ↓c_repr, ↓c_sort, ↓ev_callP, ↓ev_peek, ↓ev_peek2, ↓ev_scal, ↓ev_callF, ↓ev_knew, ↓ev_kdat, ↓c_listS, ↓c_tupS, ↓c_lenS, ↓o_well0, ↓o_well1, ↓seqT_g, ↓o_grp0, ↓o_grp1, ↓seqT_m, ↓o_mv0, ↓o_mv1, ↓o_st, Rs.val, Rs.sl, Ag.sl, Opd.res, Sl.val, Sl.keepD, isD_n, isD_b, isD_i, isD_s, isD_l, isD_t, eq_self, eqD_int, neD_int, eqD_ll, neD_ll, eqD_tt, neD_tt, eqD_bb, neD_bb, atI_0, atI_1, atI_2, atI_3, ixN_1_0, ixN_2_0, ixN_2_1, ixN_3_0, ixN_3_1, ixN_3_2, ixN_4_0, ixN_4_1, ixN_4_2, ixN_4_3, dStart, repUn, tYesD, List.map_cons, List.map_nil, List.cons_append, List.nil_append, List.length_cons, List.length_nil, true_and, and_true, ne_eq, not_false_eq_true, reduceCtorEq, Option.some.injEq, Option.map_none, Option.map_some, Nat.reduceAdd, Nat.reduceSub, Nat.reduceLT, Nat.reduceLeDiff, Nat.zero_lt_succ, Nat.le_refl, Bool.not_true, Bool.not_false, decide_true, decide_false, Int.reduceLE, Int.reduceLT, Int.reduceEq, Int.toNat_zero, Int.reduceToNat, Int.reducePow, Int.reduceNeg, Int.toNat_one, List.set_cons_zero, List.set_cons_succ, List.not_mem_nil, List.mem_cons, false_or, or_false, forall_eq, forall_eq_or_imp, if_true, if_false, ite_true, ite_false, Bool.false_eq_true, forall_const, implies_true, false_implies])
/-- a state of these groups -/
def StOk (gs : List (Int × Int)) (st : List Int) : Prop := Paired (fun (g : Int × Int) (s : Int) => 0 ≤ s ∧ s ≤ g.2) gs st
theorem StOk.len : ∀ {gs : List (Int × Int)} {st : List Int}, StOk gs st → st.length = gs.length
  | _, _, .nil => rfl
  | _, _, .cons _ h => by simp only [List.length_cons]; rw [StOk.len h]
def S_law_random_state : DSp := fun as R Q => ∃ (xs : List PyData) (n lim : Int) (gs : List (Int × Int)), as = [.o xs, .d (wellD lim gs)] ∧ Rng xs n ∧ n ≤ 900000000 ∧ WellOk lim gs ∧
  ∀ st ys, StOk gs st → Rng ys (n + 60) → Q (.d (stD st)) [ys]
/-- _law_random_state -/
def w_law_random_state_g1 : TGd :=
  (gTupD 2 (gConsD (gN 2) (gConsD (gN 3) gNilD)))
def w_law_random_state_e1 : TD :=
  (dCallN 2 S_law_pick (aCons (aVar 0) (aCons (aOf (dLst (dCons (dC (.int 0)) (dCons (dVar 3) (dCons (dCallN 2 S_law_draw (aCons (aVar 0) (aCons (aOf (dOp addD (aVar 3) (aOf (dC (.int 1))))) aNil))) dNil))))) aNil)))
def w_law_random_state : TSd :=
  (sRet (dCB tupleK (aCons (aOf (dComp [2, 3] (iSeq (dOp ixD (aVar 1) (aOf (dC (.int 1))))) w_law_random_state_g1 tYesD w_law_random_state_e1)) aNil)))
theorem stok_snoc {a : List (Int × Int)} {s : List Int} : StOk a s → ∀ {g : Int × Int} {z : Int}, 0 ≤ z → z ≤ g.2 → StOk (a ++ [g]) (s ++ [z]) := by
  intro h
  induction h with
  | nil => intro g z h0 h1; exact .cons ⟨h0, h1⟩ .nil
  | cons h _ ih => intro g z h0 h1; exact .cons h (ih h0 h1)
theorem rs_loop (m : Addr) (a : PyData) (Q : List PyData → DSt → Prop) : ∀ (gr gd : List (Int × Int)) (st : List Int) (xs : List PyData) (c : Int) (s s' : Sl), Rng xs c → c + 4 * gr.length ≤ 990000000 → gd.length + gr.length ≤ 14 → StOk gd st → (∀ g ∈ gr, 1 ≤ g.2 ∧ g.2 ≤ 10000000000000) →
    (∀ (st : List Int) (xs : List PyData) (s s' : Sl), StOk (gd ++ gr) st → Rng xs (c + 4 * gr.length) → Q (ilD st) [.o (some m) xs, .d a, s, s']) →
    compD [2, 3] w_law_random_state_g1 tYesD w_law_random_state_e1 (gr.map grpD) (ilD st) [.o (some m) xs, .d a, s, s'] Q := by
  intro gr
  induction gr with
  | nil =>
    intro gd st xs c s s' hr hc hl ho hs q
    rw [List.append_nil] at q
    exact q st xs s s' ho (hr.up (by simp))
  | cons g gr ih =>
    intro gd st xs c s s' hr hc hl ho hs q
    have hg := hs g (by simp)
    simp only [List.length_cons] at hl hc q
    rw [List.map_cons, ev_compC]
    unfold w_law_random_state_g1 w_law_random_state_e1
    walk_at "ee"
    refine ⟨xs, c, g.2 + 1, rfl, hr, by omega, by omega, by omega, fun z ys z0 z1 hr1 => ?_⟩
    walk_at "ee"
    refine ⟨ys, _, _, rfl, hr1, by omega, by simp, by simp, fun d ys2 hd hr2 => ?_⟩
    have hd' : ∃ v : Int, d = .int v ∧ 0 ≤ v ∧ v ≤ g.2 := by
      simp only [List.mem_cons, List.not_mem_nil, or_false] at hd
      rcases hd with rfl | rfl | rfl
      · exact ⟨_, rfl, by omega, by omega⟩
      · exact ⟨_, rfl, by omega, by omega⟩
      · exact ⟨_, rfl, by omega, by omega⟩
    obtain ⟨v, rfl, v0, v1⟩ := hd'
    walk_at "ee"
    have sl := ho.len
    refine ⟨by unfold ilD; rw [List.length_map]; omega, ?_⟩
    have := ih (gd ++ [g]) (st ++ [v]) ys2 (c + 4) (.d (.int g.1)) (.d (.int g.2)) (hr2.up (by omega)) (by omega) (by simp only [List.length_append, List.length_cons, List.length_nil]; omega) (stok_snoc ho v0 v1) (fun x hx => hs x (by simp [hx])) (fun st xs s s' h1 h2 => q st xs s s' (by rw [List.append_assoc] at h1; exact h1) (h2.up (by omega)))
    unfold ilD at this ⊢
    rw [List.map_append] at this
    exact this
theorem b_law_random_state (as : List Ag) (m : Addr) (R : RXc) (Q : Rs → List (List PyData) → Prop) (hl : as.length = 2) (h : S_law_random_state as R Q) : w_law_random_state (dEnds as m Q noR) (dStart 4 as m) := by
  obtain ⟨xs, n, lim, gs, rfl, hr, hn, hw, q⟩ := h
  unfold w_law_random_state
  walk_at "ee"
  refine rs_loop m _ _ gs [] [] xs n _ _ hr (by have := hw.len; omega) (by have := hw.len; simp only [List.length_nil]; omega) .nil hw.sz (fun st ys s s' h1 h2 => ?_)
  walk_at "ee"
  exact q st ys h1 (h2.up (by have := hw.len; omega))
/-! ### all moves -/
def lowsOf (gs : List (Int × Int)) (k least : Int) : Int → Nat → List (Int × Int)
  | _, 0 => []
  | lo, n + 1 => if least ≤ wtOf gs lo then (k, lo) :: lowsOf gs k least (lo + 1) n else lowsOf gs k least (lo + 1) n
def mvsFrom (lim : Int) (gs : List (Int × Int)) : Int → Nat → List (Int × Int)
  | _, 0 => []
  | k, n + 1 => lowsOf gs k (wtOf gs k - lim) (-1) (k + 1).toNat ++ mvsFrom lim gs (k + 1) n
def allMv (lim : Int) (gs : List (Int × Int)) : List (Int × Int) := mvsFrom lim gs 0 gs.length
theorem lows_len (gs : List (Int × Int)) (k least : Int) : ∀ (n : Nat) (lo : Int), (lowsOf gs k least lo n).length ≤ n
  | 0, _ => Nat.le_refl _
  | n + 1, lo => by
    have := lows_len gs k least n (lo + 1)
    rw [lowsOf]; split
    · simp only [List.length_cons]; omega
    · omega
theorem lows_mem (gs : List (Int × Int)) (k least : Int) : ∀ (n : Nat) (lo : Int) (p : Int × Int), p ∈ lowsOf gs k least lo n → p.1 = k ∧ lo ≤ p.2 ∧ p.2 < lo + n ∧ least ≤ wtOf gs p.2
  | n + 1, lo, p, h => by
    rw [lowsOf] at h
    split at h
    · rename_i c
      rcases List.mem_cons.mp h with h | h
      · rw [h]; exact ⟨rfl, by show lo ≤ lo; omega, by show lo < _; omega, c⟩
      · have := lows_mem gs k least n (lo + 1) p h
        exact ⟨this.1, by omega, by omega, this.2.2.2⟩
    · have := lows_mem gs k least n (lo + 1) p h
      exact ⟨this.1, by omega, by omega, this.2.2.2⟩
theorem mvs_mem (lim : Int) (gs : List (Int × Int)) : ∀ (n : Nat) (k : Int) (p : Int × Int), 0 ≤ k → p ∈ mvsFrom lim gs k n → k ≤ p.1 ∧ p.1 < k + n ∧ -1 ≤ p.2 ∧ p.2 < p.1 ∧ wtOf gs p.1 - lim ≤ wtOf gs p.2
  | n + 1, k, p, h0, h => by
    rw [mvsFrom] at h
    rcases List.mem_append.mp h with h | h
    · have := lows_mem gs _ _ _ _ p h
      have e := this.1
      refine ⟨by omega, by omega, by omega, by omega, by rw [e]; exact this.2.2.2⟩
    · have := mvs_mem lim gs n (k + 1) p (by omega) h
      exact ⟨by omega, by omega, this.2.2⟩
def S_law_all_moves : DSp := fun as R Q => ∃ (lim : Int) (gs : List (Int × Int)), as = [.d (wellD lim gs)] ∧ gs.length ≤ 14 ∧ Q (.d (.list ((allMv lim gs).map mvD))) []
/-- _law_all_moves -/
def w_law_all_moves_g2 : TGd :=
  (gN 4)
def w_law_all_moves_t2 : TTd :=
  (dTest (dOp geD (aOf (dCallN 2 S_law_weight (aCons (aOf (dVar 0)) (aCons (aOf (dVar 4)) aNil)))) (aVar 3)))
def w_law_all_moves_e2 : TD :=
  (dTup (dCons (dVar 2) (dCons (dVar 4) dNil)))
def w_law_all_moves_g1 : TGd :=
  (gN 2)
def w_law_all_moves_b1 : TSd :=
  (sSeq (sSet 3 (dOp subD (aOf (dCallN 2 S_law_weight (aCons (aOf (dVar 0)) (aCons (aOf (dVar 2)) aNil)))) (aOf (dOp ixD (aVar 0) (aOf (dC (.int 0)))))))
  (sSet 1 (dOp addD (aVar 1) (aOf (dComp [4] (iRange2 (aOf (dUn negD (aOf (dC (.int 1))))) (aVar 2)) w_law_all_moves_g2 w_law_all_moves_t2 w_law_all_moves_e2)))))
def w_law_all_moves : TSd :=
  (sSeq (sSet 1 (dLst dNil))
  (sSeq (sFor (iRange1 (aOf (dCB lenK (aCons (aOf (dOp ixD (aVar 0) (aOf (dC (.int 1))))) aNil)))) w_law_all_moves_g1
  w_law_all_moves_b1)
  (sRet (dVar 1))))
theorem am_c2 (lim k least : Int) (gs acc0 : List (Int × Int)) (Q : List PyData → DSt → Prop) : ∀ (n : Nat) (lo : Int) (acc : List (Int × Int)) (s : Sl), -1 ≤ lo → lo + n ≤ gs.length → acc.length + n ≤ 1000 →
    (∀ s, Q ((acc ++ lowsOf gs k least lo n).map mvD) [.d (wellD lim gs), .o none (acc0.map mvD), .d (.int k), .d (.int least), s]) →
    compD [4] w_law_all_moves_g2 w_law_all_moves_t2 w_law_all_moves_e2 (rangeD lo n) (acc.map mvD) [.d (wellD lim gs), .o none (acc0.map mvD), .d (.int k), .d (.int least), s] Q := by
  intro n
  induction n with
  | zero => intro lo acc s _ _ _ q; rw [lowsOf, List.append_nil] at q; exact q s
  | succ n ih =>
    intro lo acc s h0 h1 h2 q
    rw [rangeD, ev_compC]
    unfold w_law_all_moves_g2 w_law_all_moves_t2
    walk_at "ee"
    refine ⟨_, lim, gs, lo, rfl, wellD_is lim gs, by omega, ?_⟩
    walk_at "ee"
    rw [lowsOf] at q
    by_cases c : least ≤ wtOf gs lo
    · rw [if_pos c] at q
      rw [dT c]
      unfold w_law_all_moves_e2
      walk_at "ee"
      refine ⟨by rw [List.length_map]; omega, ?_⟩
      have := ih (lo + 1) (acc ++ [(k, lo)]) (.d (.int lo)) (by omega) (by omega) (by simp only [List.length_append, List.length_cons, List.length_nil]; omega) (fun s => by rw [List.append_assoc]; exact q s)
      rw [List.map_append] at this
      exact this
    · rw [if_neg c] at q
      rw [dF c]
      walk_at "ee"
      exact ih (lo + 1) acc (.d (.int lo)) (by omega) (by omega) (by omega) q
theorem am_loop (lim : Int) (gs : List (Int × Int)) (hg : gs.length ≤ 14) (D : DEnds) : ∀ (n : Nat) (k : Int) (acc : List (Int × Int)) (s2 s3 s4 : Sl), 0 ≤ k → k + n = gs.length → acc.length ≤ 20 * k →
    (∀ s2 s3 s4, D.nx [.d (wellD lim gs), .o none ((acc ++ mvsFrom lim gs k n).map mvD), s2, s3, s4]) →
    forD w_law_all_moves_g1 w_law_all_moves_b1 D (rangeD k n) [.d (wellD lim gs), .o none (acc.map mvD), s2, s3, s4] := by
  intro n
  induction n with
  | zero => intro k acc s2 s3 s4 _ _ _ q; rw [mvsFrom, List.append_nil] at q; exact q s2 s3 s4
  | succ n ih =>
    intro k acc s2 s3 s4 h0 h1 h2 q
    rw [rangeD, ev_forC]
    unfold w_law_all_moves_g1 w_law_all_moves_b1
    walk_at "ee"
    refine ⟨_, lim, gs, k, rfl, wellD_is lim gs, by omega, ?_⟩
    walk_at "ee"
    refine ⟨by unfold okRg; omega, by unfold okRg; omega, ?_⟩
    rw [show k - -1 = k + 1 by omega]
    have ll := lows_len gs k (wtOf gs k - lim) (k + 1).toNat (-1)
    refine am_c2 lim k (wtOf gs k - lim) gs acc _ (k + 1).toNat (-1) [] s4 (by omega) (by omega) (by simp only [List.length_nil]; omega) (fun s5 => ?_)
    rw [List.nil_append]
    walk_at "ee"
    refine ⟨by simp only [List.length_map]; omega, ?_⟩
    have := ih (k + 1) (acc ++ lowsOf gs k (wtOf gs k - lim) (-1) (k + 1).toNat) (.d (.int k)) (.d (.int (wtOf gs k - lim))) s4.keepD (by omega) (by omega) (by simp only [List.length_append]; omega) (fun s2 s3 s4 => by rw [List.append_assoc]; exact q s2 s3 s4)
    rw [List.map_append] at this
    exact this
theorem b_law_all_moves (as : List Ag) (m : Addr) (R : RXc) (Q : Rs → List (List PyData) → Prop) (hl : as.length = 1) (h : S_law_all_moves as R Q) : w_law_all_moves (dEnds as m Q noR) (dStart 5 as m) := by
  obtain ⟨lim, gs, rfl, hg, q⟩ := h
  unfold w_law_all_moves
  walk_at "ee"
  rw [List.length_map]
  refine ⟨by unfold okRg; omega, ?_⟩
  refine am_loop lim gs hg _ gs.length 0 [] _ _ _ (by omega) (by omega) (by simp) (fun s2 s3 s4 => ?_)
  rw [List.nil_append]
  walk_at "ee"
  exact q
end LW

namespace LW
open PySem L2 DL
local macro_rules | `(tactic| walk_at "ee") => `(tactic| simp only [↓asB_b, ↓with1_s, ↓with2_s, ↓asI_s, ↓withL_s, ↓withA_s, ↓putI_s, ↓subI_s, ↓as2I_s, ↓appV_s, ↓isO_o, ↓ev_var, ↓ev_vd, ↓ev_vo, ↓ev_c, ↓ev_avar, ↓ev_ad, ↓ev_ao, ↓ev_kz, ↓ev_of, ↓ev_kof, ↓ev_op, ↓ev_op1, ↓ev_op2, ↓ev_op3, ↓ev_un, ↓ev_un1, ↓ev_un2, ↓ev_test, ↓ev_ktest, ↓ev_and, ↓ev_kandT, ↓ev_kandF, ↓ev_or, ↓ev_korT, ↓ev_korF, ↓ev_not, ↓ev_knot, ↓ev_andV, ↓ev_kandV, ↓ev_kandVT, ↓ev_kandVF, ↓ev_orV, ↓ev_korV, ↓ev_korVT, ↓ev_korVF, ↓ev_notV, ↓ev_knotV, ↓ev_knotV2, ↓ev_ifE, ↓ev_kifET, ↓ev_kifEF, ↓ev_chain, ↓ev_ch1, ↓ev_ch2, ↓ev_ch2b, ↓ev_ch3, ↓ev_ch4T, ↓ev_ch4F, ↓ev_ch5, ↓ev_ch6, ↓ev_nil, ↓ev_cons, ↓ev_kcons, ↓ev_kcons2, ↓ev_lst, ↓ev_klst, ↓ev_tup, ↓ev_ktup, ↓ev_rnil, ↓ev_rcons, ↓ev_krcons, ↓ev_krcons2, ↓ev_anil, ↓ev_acons, ↓ev_kacons, ↓ev_kacons2, ↓ev_pnone, ↓ev_psome, ↓ev_kp, ↓ev_kp2, ↓ev_sl, ↓ev_sl1, ↓ev_sl2, ↓ev_sl3, ↓ev_sl4, ↓ev_slL, ↓ev_slT, ↓ev_cb, ↓ev_kcb, ↓ev_kcb2, ↓ev_isi, ↓ev_kisi, ↓ev_kisi2, ↓ev_call, ↓ev_kcall, ↓ev_callK, ↓ev_kcallK, ↓ev_kq, ↓ev_comp, ↓ev_kcomp, ↓ev_kcompE, ↓ev_compN, ↓ev_compC, ↓ev_kc1, ↓ev_kc2T, ↓ev_kc2F, ↓ev_kc3, ↓ev_yes, ↓ev_gn, ↓ev_gnil, ↓ev_gcons, ↓ev_kg, ↓ev_gtup, ↓ev_seqT, ↓ev_seqL, ↓ev_sub, ↓ev_ksub, ↓ev_iseq, ↓ev_kiseq, ↓ev_seqVL, ↓ev_seqVT, ↓ev_kqd, ↓ev_rg1, ↓ev_krg1, ↓ev_krg1b, ↓ev_rg2, ↓ev_krg2, ↓ev_krg2b, ↓ev_krg2c, ↓ev_en, ↓ev_ken, ↓ev_enL, ↓ev_zp, ↓ev_kzp, ↓ev_kzp2, ↓ev_zpL, ↓ev_zpT, ↓ev_snext, ↓ev_sseq, ↓ev_knx, ↓nx_set, ↓rt_set, ↓bk_set, ↓ct_set, ↓ex_set, ↓nx_for, ↓rt_for, ↓bk_for, ↓ct_for, ↓ex_for, ↓nx_end, ↓rt_end, ↓ex_end, ↓ev_sbrk, ↓ev_scont, ↓ev_sdrop, ↓ev_kdrop, ↓ev_sret, ↓ev_sretN, ↓ev_sif, ↓ev_kifT, ↓ev_kifF, ↓ev_sset, ↓ev_kset, ↓ev_sasg, ↓ev_kasg, ↓ev_saug, ↓ev_kaug, ↓ev_kaug2, ↓ev_kaug3, ↓ev_sapp, ↓ev_kapp, ↓ev_spar, ↓ev_kpar, ↓ev_sfor, ↓ev_kfori, ↓ev_forN, ↓ev_forC, ↓ev_kfor, ↓o_addI, ↓o_addL, ↓o_addT, ↓o_addS, ↓o_sub, ↓o_iadd, ↓o_mod, ↓o_fdiv, ↓o_pow, ↓o_mulI, ↓o_mulL, ↓o_mulT, ↓o_lt, ↓o_le, ↓o_gt, ↓o_ge, ↓o_isN, ↓o_notN, ↓n_none, ↓n_int, ↓n_bool, ↓n_str, ↓n_list, ↓n_tup, ↓o_neg, ↓o_rev, ↓ixV_s, ↓o_ixL, ↓o_ixT, ↓c_abs, ↓c_intI, ↓c_intB, ↓c_lenL, ↓c_lenT, ↓c_max2, ↓c_min2, ↓c_listL, ↓c_listT, ↓c_tupL, ↓c_tupT, ↓c_divmod, ↓c_str, ↓c_sum1, ↓c_max1, ↓c_min1, ↓c_all1, ↓c_any1, ↓g_0, ↓g_s, ↓s_0, ↓s_s, ↓v_un, ↓v_d, ↓v_o, ↓res_x, ↓res_v, ↓val_d, ↓val_f, ↓sl_d, ↓sl_f, ↓ag_d, ↓ag_o, ↓cons?_s, ↓ra_nil, ↓cons2?_s, ↓ra_cons, ↓ag_nil, ↓ag_x, ↓agV_s, ↓ag_v, ↓nr_nil, ↓nr_x, ↓nrV_d, ↓nrV_o, ↓nr_v, ↓vx_nil, ↓vx_x, ↓vx_v, ↓putV_o, ↓pb_0, ↓pb_1, ↓pl_nil, ↓pl_0, ↓pl_1, ↓pl_2, ↓pl_3, ↓rd_0, ↓bx_nil, ↓bx_d, ↓bx_o, ↓rd_o, ↓kd_un, ↓kd_d, ↓sa_nil, ↓sa_cons, ↓wp_nil, ↓wp_cons, ↓rs_nil, ↓rs_cons, ↓ev_lc2, ↓ev_klc2, ↓ev_c2N, ↓ev_c2C, ↓ev_k21, ↓ev_k22T, ↓ev_k22F, ↓ev_k23, ↓ev_k24, ↓c_repr, ↓c_sort, ↓ev_callP, ↓ev_peek, ↓ev_peek2, ↓ev_scal, ↓ev_callF, ↓ev_knew, ↓ev_kdat, ↓c_listS, ↓c_tupS, ↓c_lenS, ↓o_well0, ↓o_well1, ↓seqT_g, ↓o_grp0, ↓o_grp1, ↓seqT_m, ↓o_mv0, ↓o_mv1, ↓o_st, Rs.val, Rs.sl, Ag.sl, Opd.res, Sl.val, Sl.keepD, isD_n, isD_b, isD_i, isD_s, isD_l, isD_t, eq_self, eqD_int, neD_int, eqD_ll, neD_ll, eqD_tt, neD_tt, eqD_bb, neD_bb, atI_0, atI_1, atI_2, atI_3, ixN_1_0, ixN_2_0, ixN_2_1, ixN_3_0, ixN_3_1, ixN_3_2, ixN_4_0, ixN_4_1, ixN_4_2, ixN_4_3, dStart, repUn, tYesD, List.map_cons, List.map_nil, List.cons_append, List.nil_append, List.length_cons, List.length_nil, true_and, and_true, ne_eq, not_false_eq_true, reduceCtorEq, Option.some.injEq, Option.map_none, Option.map_some, Nat.reduceAdd, Nat.reduceSub, Nat.reduceLT, Nat.reduceLeDiff, Nat.zero_lt_succ, Nat.le_refl, Bool.not_true, Bool.not_false, decide_true, decide_false, Int.reduceLE, Int.reduceLT, Int.reduceEq, Int.toNat_zero, Int.reduceToNat, Int.reducePow, Int.reduceNeg, Int.toNat_one, List.set_cons_zero, List.set_cons_succ, List.not_mem_nil, List.mem_cons, false_or, or_false, forall_eq, forall_eq_or_imp, if_true, if_false, ite_true, ite_false, Bool.false_eq_true, forall_const, implies_true, false_implies])
/-! ### legal moves -/
def stAt (st : List Int) (k : Int) : Int := (st[k.toNat]?).getD 0
def szOf (gs : List (Int × Int)) (k : Int) : Int := ((gs[k.toNat]?).map (·.2)).getD 0
def isLegal (gs : List (Int × Int)) (st : List Int) (p : Int × Int) : Bool := decide (stAt st p.1 < szOf gs p.1) && (decide (p.2 < 0) || decide (0 < stAt st p.2))
def legMv (lim : Int) (gs : List (Int × Int)) (st : List Int) : List (Int × Int) := (allMv lim gs).filter (isLegal gs st)
theorem atI_in {α : Type} (xs : List α) (k : Int) (h0 : 0 ≤ k) (h1 : k < xs.length) : atI xs k = xs[k.toNat]? := by
  unfold atI ixN; rw [if_pos h0, if_pos h1]; rfl
theorem at_st (st : List Int) (k : Int) (h0 : 0 ≤ k) (h1 : k < st.length) : atI (ilD st) k = some (.int (stAt st k)) := by
  unfold ilD
  rw [atI_map, atI_in st k h0 h1]
  unfold stAt
  rw [List.getElem?_eq_getElem (by omega)]
  rfl
theorem at_gs (gs : List (Int × Int)) (k : Int) (h0 : 0 ≤ k) (h1 : k < gs.length) : ∃ g, gs[k.toNat]? = some g ∧ atI (gs.map grpD) k = some (grpD g) ∧ g.1 = wtOf gs k ∧ g.2 = szOf gs k := by
  have e : gs[k.toNat]? = some (gs[k.toNat]'(by omega)) := List.getElem?_eq_getElem (by omega)
  refine ⟨_, e, ?_, ?_, ?_⟩
  · rw [atI_map, atI_in gs k h0 h1, e]; rfl
  · unfold wtOf; rw [if_neg (by omega), e]
  · unfold szOf; rw [e]; rfl
theorem at_grp (gs : List (Int × Int)) (k : Int) (h0 : 0 ≤ k) (h1 : k < gs.length) : atI (gs.map grpD) k = some (grpD (wtOf gs k, szOf gs k)) := by
  obtain ⟨g, _, e, e1, e2⟩ := at_gs gs k h0 h1
  rw [e, ← e1, ← e2]
def S_law_legal_moves : DSp := fun as R Q => ∃ (lim : Int) (gs : List (Int × Int)) (st : List Int), as = [.d (wellD lim gs), .d (stD st)] ∧ gs.length ≤ 14 ∧ st.length = gs.length ∧ Q (.d (.list ((legMv lim gs st).map mvD))) []
/-- _law_legal_moves -/
def w_law_legal_moves_g1 : TGd :=
  (gTupD 2 (gConsD (gN 3) (gConsD (gN 4) gNilD)))
def w_law_legal_moves_b1 : TSd :=
  (sIf (dAnd (dTest (dOp ltD (aOf (dOp ixD (aVar 1) (aVar 3))) (aOf (dOp ixD (aOf (dOp ixD (aOf (dOp ixD (aVar 0) (aOf (dC (.int 1))))) (aVar 3))) (aOf (dC (.int 1))))))) (dOr (dTest (dOp ltD (aVar 4) (aOf (dC (.int 0))))) (dTest (dOp gtD (aOf (dOp ixD (aVar 1) (aVar 4))) (aOf (dC (.int 0))))))) (sApp 2 (dTup (dCons (dVar 3) (dCons (dVar 4) dNil)))) sNext)
def w_law_legal_moves : TSd :=
  (sSeq (sSet 2 (dLst dNil))
  (sSeq (sFor (iSeq (dCallN 1 S_law_all_moves (aCons (aOf (dVar 0)) aNil))) w_law_legal_moves_g1
  w_law_legal_moves_b1)
  (sRet (dVar 2))))
theorem lm_loop (lim : Int) (gs : List (Int × Int)) (st : List Int) (hg : st.length = gs.length) (D : DEnds) : ∀ (ms acc : List (Int × Int)) (s3 s4 : Sl), (∀ p ∈ ms, 0 ≤ p.1 ∧ p.1 < gs.length ∧ -1 ≤ p.2 ∧ p.2 < p.1) → acc.length + ms.length ≤ 1000 →
    (∀ s3 s4, D.nx [.d (wellD lim gs), .d (stD st), .o none ((acc ++ ms.filter (isLegal gs st)).map mvD), s3, s4]) →
    forD w_law_legal_moves_g1 w_law_legal_moves_b1 D (ms.map mvD) [.d (wellD lim gs), .d (stD st), .o none (acc.map mvD), s3, s4] := by
  intro ms
  induction ms with
  | nil => intro acc s3 s4 _ _ q; rw [List.filter_nil, List.append_nil] at q; exact q s3 s4
  | cons p ms ih =>
    intro acc s3 s4 hm hl q
    have hp := hm p (by simp)
    have hm' : ∀ p ∈ ms, 0 ≤ p.1 ∧ p.1 < gs.length ∧ -1 ≤ p.2 ∧ p.2 < p.1 := fun p h => hm p (by simp [h])
    simp only [List.length_cons] at hl
    rw [List.map_cons, ev_forC]
    unfold w_law_legal_moves_g1 w_law_legal_moves_b1
    walk_at "ee"
    rw [at_st st p.1 hp.1 (by omega)]
    walk_at "ee"
    rw [at_grp gs p.1 hp.1 hp.2.1]
    walk_at "ee"
    rw [List.filter_cons] at q
    have skip : isLegal gs st p = false → forD w_law_legal_moves_g1 w_law_legal_moves_b1 D (ms.map mvD) [.d (wellD lim gs), .d (stD st), .o none (acc.map mvD), .d (.int p.1), .d (.int p.2)] := fun e => by
      rw [e] at q
      exact ih acc _ _ hm' (by omega) q
    have take : isLegal gs st p = true → acc.length < 16777216 ∧ forD w_law_legal_moves_g1 w_law_legal_moves_b1 D (ms.map mvD) [.d (wellD lim gs), .d (stD st), .o none (acc.map mvD ++ [mvD p]), .d (.int p.1), .d (.int p.2)] := fun e => by
      rw [e] at q
      refine ⟨by omega, ?_⟩
      have := ih (acc ++ [p]) (.d (.int p.1)) (.d (.int p.2)) hm' (by simp only [List.length_append, List.length_cons, List.length_nil]; omega) (fun s3 s4 => by rw [List.append_assoc]; exact q s3 s4)
      rw [List.map_append] at this
      exact this
    by_cases c : stAt st p.1 < szOf gs p.1
    · rw [dT c]
      walk_at "ee"
      by_cases c2 : p.2 < 0
      · rw [dT c2]
        walk_at "ee"
        have := take (by unfold isLegal; rw [dT c, dT c2]; rfl)
        rw [List.length_map]
        exact this
      · rw [dF c2]
        walk_at "ee"
        rw [at_st st p.2 (by omega) (by omega)]
        walk_at "ee"
        by_cases c3 : 0 < stAt st p.2
        · rw [dT c3]
          walk_at "ee"
          have := take (by unfold isLegal; rw [dT c, dT c3]; simp)
          rw [List.length_map]
          exact this
        · rw [dF c3]
          walk_at "ee"
          exact skip (by unfold isLegal; rw [dF c2, dF c3]; simp)
    · rw [dF c]
      walk_at "ee"
      exact skip (by unfold isLegal; rw [dF c]; rfl)
theorem lows_cnt (lim : Int) (gs : List (Int × Int)) : ∀ (n : Nat) (k : Int), 0 ≤ k → k + n ≤ 14 → (mvsFrom lim gs k n).length ≤ 15 * n
  | 0, _, _, _ => Nat.le_refl _
  | n + 1, k, h0, h1 => by
    have := lows_cnt lim gs n (k + 1) (by omega) (by omega)
    have l := lows_len gs k (wtOf gs k - lim) (k + 1).toNat (-1)
    rw [mvsFrom, List.length_append]
    omega
theorem allMv_len (lim : Int) (gs : List (Int × Int)) (h : gs.length ≤ 14) : (allMv lim gs).length ≤ 210 := by
  have := lows_cnt lim gs gs.length 0 (by omega) (by omega)
  unfold allMv; omega
theorem allMv_mem (lim : Int) (gs : List (Int × Int)) : ∀ p ∈ allMv lim gs, 0 ≤ p.1 ∧ p.1 < gs.length ∧ -1 ≤ p.2 ∧ p.2 < p.1 := fun p h => by
  have := mvs_mem lim gs _ _ p (by omega) h
  exact ⟨this.1, by omega, this.2.2.1, this.2.2.2.1⟩
theorem b_law_legal_moves (as : List Ag) (m : Addr) (R : RXc) (Q : Rs → List (List PyData) → Prop) (hl : as.length = 2) (h : S_law_legal_moves as R Q) : w_law_legal_moves (dEnds as m Q noR) (dStart 5 as m) := by
  obtain ⟨lim, gs, st, rfl, hg, hs, q⟩ := h
  unfold w_law_legal_moves
  walk_at "ee"
  refine ⟨lim, gs, rfl, hg, ?_⟩
  walk_at "ee"
  have := allMv_len lim gs hg
  refine lm_loop lim gs st hs _ (allMv lim gs) [] _ _ (allMv_mem lim gs) (by simp only [List.length_nil]; omega) (fun s3 s4 => ?_)
  rw [List.nil_append]
  walk_at "ee"
  exact q
/-! ### moves applied -/
def appl (st : List Int) (k l t : Int) : List Int :=
  let s := st.set k.toNat (stAt st k + t)
  if 0 ≤ l then s.set l.toNat (stAt s l - t) else s
def S_law_applied : DSp := fun as R Q => ∃ (st : List Int) (k l t : Int), as = [.d (stD st), .d (mvD (k, l)), .d (.int t)] ∧ st.length ≤ 1000 ∧ 0 ≤ k ∧ k < st.length ∧ l < st.length ∧ Q (.d (stD (appl st k l t))) []
/-- _law_applied -/
def w_law_applied : TSd :=
  (sSeq (sSet 3 (dCB listK (aCons (aVar 0) aNil)))
  (sSeq (sAsg (dOp addD (aOf (dOp ixD (aVar 3) (aOf (dOp ixD (aVar 1) (aOf (dC (.int 0))))))) (aVar 2)) (gSubD 3 (aOf (dOp ixD (aVar 1) (aOf (dC (.int 0)))))))
  (sSeq (sIf (dTest (dOp geD (aOf (dOp ixD (aVar 1) (aOf (dC (.int 1))))) (aOf (dC (.int 0))))) (sAsg (dOp subD (aOf (dOp ixD (aVar 3) (aOf (dOp ixD (aVar 1) (aOf (dC (.int 1))))))) (aVar 2)) (gSubD 3 (aOf (dOp ixD (aVar 1) (aOf (dC (.int 1))))))) sNext)
  (sRet (dCB tupleK (aCons (aVar 3) aNil))))))
theorem b_law_applied (as : List Ag) (m : Addr) (R : RXc) (Q : Rs → List (List PyData) → Prop) (hl : as.length = 3) (h : S_law_applied as R Q) : w_law_applied (dEnds as m Q noR) (dStart 4 as m) := by
  obtain ⟨st, k, l, t, rfl, hn, k0, k1, l1, q⟩ := h
  unfold w_law_applied stD
  walk_at "ee"
  rw [at_st st k k0 k1]
  walk_at "ee"
  rw [ixN_lit k0 (by unfold ilD; rw [List.length_map]; exact k1)]
  walk_at "ee"
  have es : (ilD st).set k.toNat (.int (stAt st k + t)) = ilD (st.set k.toNat (stAt st k + t)) := by unfold ilD; rw [List.map_set]
  rw [es]
  generalize hs : st.set k.toNat (stAt st k + t) = s1 at q ⊢
  have sl : s1.length = st.length := by rw [← hs, List.length_set]
  by_cases c : 0 ≤ l
  · rw [dT c]
    walk_at "ee"
    rw [at_st s1 l c (by omega)]
    walk_at "ee"
    rw [ixN_lit c (by unfold ilD; rw [List.length_map, sl]; exact l1)]
    walk_at "ee"
    have e2 : (ilD s1).set l.toNat (.int (stAt s1 l - t)) = ilD (s1.set l.toNat (stAt s1 l - t)) := by unfold ilD; rw [List.map_set]
    rw [e2]
    have : appl st k l t = s1.set l.toNat (stAt s1 l - t) := by unfold appl; rw [hs]; simp only [if_pos c]
    rw [this] at q
    exact q
  · rw [dF c]
    walk_at "ee"
    have : appl st k l t = s1 := by unfold appl; rw [hs]; simp only [if_neg c]
    rw [this] at q
    exact q
end LW

namespace LW
open PySem L2 DL
local macro_rules | `(tactic| walk_at "ee") => `(tactic| simp only [↓asB_b, ↓with1_s, ↓with2_s, ↓asI_s, ↓withL_s, ↓withA_s, ↓putI_s, ↓subI_s, ↓as2I_s, ↓appV_s, ↓isO_o, ↓ev_var, ↓ev_vd, ↓ev_vo, ↓ev_c, ↓ev_avar, ↓ev_ad, ↓ev_ao, ↓ev_kz, ↓ev_of, ↓ev_kof, ↓ev_op, ↓ev_op1, ↓ev_op2, ↓ev_op3, ↓ev_un, ↓ev_un1, ↓ev_un2, ↓ev_test, ↓ev_ktest, ↓ev_and, ↓ev_kandT, ↓ev_kandF, ↓ev_or, ↓ev_korT, ↓ev_korF, ↓ev_not, ↓ev_knot, ↓ev_andV, ↓ev_kandV, ↓ev_kandVT, ↓ev_kandVF, ↓ev_orV, ↓ev_korV, ↓ev_korVT, ↓ev_korVF, ↓ev_notV, ↓ev_knotV, ↓ev_knotV2, ↓ev_ifE, ↓ev_kifET, ↓ev_kifEF, ↓ev_chain, ↓ev_ch1, ↓ev_ch2, ↓ev_ch2b, ↓ev_ch3, ↓ev_ch4T, ↓ev_ch4F, ↓ev_ch5, ↓ev_ch6, ↓ev_nil, ↓ev_cons, ↓ev_kcons, ↓ev_kcons2, ↓ev_lst, ↓ev_klst, ↓ev_tup, ↓ev_ktup, ↓ev_rnil, ↓ev_rcons, ↓ev_krcons, ↓ev_krcons2, ↓ev_anil, ↓ev_acons, ↓ev_kacons, ↓ev_kacons2, ↓ev_pnone, ↓ev_psome, ↓ev_kp, ↓ev_kp2, ↓ev_sl, ↓ev_sl1, ↓ev_sl2, ↓ev_sl3, ↓ev_sl4, ↓ev_slL, ↓ev_slT, ↓ev_cb, ↓ev_kcb, ↓ev_kcb2, ↓ev_isi, ↓ev_kisi, ↓ev_kisi2, ↓ev_call, ↓ev_kcall, ↓ev_callK, ↓ev_kcallK, ↓ev_kq, ↓ev_comp, ↓ev_kcomp, ↓ev_kcompE, ↓ev_compN, ↓ev_compC, ↓ev_kc1, ↓ev_kc2T, ↓ev_kc2F, ↓ev_kc3, ↓ev_yes, ↓ev_gn, ↓ev_gnil, ↓ev_gcons, ↓ev_kg, ↓ev_gtup, ↓ev_seqT, ↓ev_seqL, ↓ev_sub, ↓ev_ksub, ↓ev_iseq, ↓ev_kiseq, ↓ev_seqVL, ↓ev_seqVT, ↓ev_kqd, ↓ev_rg1, ↓ev_krg1, ↓ev_krg1b, ↓ev_rg2, ↓ev_krg2, ↓ev_krg2b, ↓ev_krg2c, ↓ev_en, ↓ev_ken, ↓ev_enL, ↓ev_zp, ↓ev_kzp, ↓ev_kzp2, ↓ev_zpL, ↓ev_zpT, ↓ev_snext, ↓ev_sseq, ↓ev_knx, ↓nx_set, ↓rt_set, ↓bk_set, ↓ct_set, ↓ex_set, ↓nx_for, ↓rt_for, ↓bk_for, ↓ct_for, ↓ex_for, ↓nx_end, ↓rt_end, ↓ex_end, ↓ev_sbrk, ↓ev_scont, ↓ev_sdrop, ↓ev_kdrop, ↓ev_sret, ↓ev_sretN, ↓ev_sif, ↓ev_kifT, ↓ev_kifF, ↓ev_sset, ↓ev_kset, ↓ev_sasg, ↓ev_kasg, ↓ev_saug, ↓ev_kaug, ↓ev_kaug2, ↓ev_kaug3, ↓ev_sapp, ↓ev_kapp, ↓ev_spar, ↓ev_kpar, ↓ev_sfor, ↓ev_kfori, ↓ev_forN, ↓ev_forC, ↓ev_kfor, ↓o_addI, ↓o_addL, ↓o_addT, ↓o_addS, ↓o_sub, ↓o_iadd, ↓o_mod, ↓o_fdiv, ↓o_pow, ↓o_mulI, ↓o_mulL, ↓o_mulT, ↓o_lt, ↓o_le, ↓o_gt, ↓o_ge, ↓o_isN, ↓o_notN, ↓n_none, ↓n_int, ↓n_bool, ↓n_str, ↓n_list, ↓n_tup, ↓o_neg, ↓o_rev, ↓ixV_s, ↓o_ixL, ↓o_ixT, ↓c_abs, ↓c_intI, ↓c_intB, ↓c_lenL, ↓c_lenT, ↓c_max2, ↓c_min2, ↓c_listL, ↓c_listT, ↓c_tupL, ↓c_tupT, ↓c_divmod, ↓c_str, ↓c_sum1, ↓c_max1, ↓c_min1, ↓c_all1, ↓c_any1, ↓g_0, ↓g_s, ↓s_0, ↓s_s, ↓v_un, ↓v_d, ↓v_o, ↓res_x, ↓res_v, ↓val_d, ↓val_f, ↓sl_d, ↓sl_f, ↓ag_d, ↓ag_o, ↓cons?_s, ↓ra_nil, ↓cons2?_s, ↓ra_cons, ↓ag_nil, ↓ag_x, ↓agV_s, ↓ag_v, ↓nr_nil, ↓nr_x, ↓nrV_d, ↓nrV_o, ↓nr_v, ↓vx_nil, ↓vx_x, ↓vx_v, ↓putV_o, ↓pb_0, ↓pb_1, ↓pl_nil, ↓pl_0, ↓pl_1, ↓pl_2, ↓pl_3, ↓rd_0, ↓bx_nil, ↓bx_d, ↓bx_o, ↓rd_o, ↓kd_un, ↓kd_d, ↓sa_nil, ↓sa_cons, ↓wp_nil, ↓wp_cons, ↓rs_nil, ↓rs_cons, ↓ev_lc2, ↓ev_klc2, ↓ev_c2N, ↓ev_c2C, ↓ev_k21, ↓ev_k22T, ↓ev_k22F, ↓ev_k23, ↓ev_k24, ↓c_repr, ↓c_sort, ↓ev_callP, ↓ev_peek, ↓ev_peek2, ↓ev_scal, ↓ev_callF, ↓ev_knew, ↓ev_kdat, ↓c_listS, ↓c_tupS, ↓c_lenS, ↓o_well0, ↓o_well1, ↓seqT_g, ↓o_grp0, ↓o_grp1, ↓seqT_m, ↓o_mv0, ↓o_mv1, ↓o_st, Rs.val, Rs.sl, Ag.sl, Opd.res, Sl.val, Sl.keepD, isD_n, isD_b, isD_i, isD_s, isD_l, isD_t, eq_self, eqD_int, neD_int, eqD_ll, neD_ll, eqD_tt, neD_tt, eqD_bb, neD_bb, atI_0, atI_1, atI_2, atI_3, ixN_1_0, ixN_2_0, ixN_2_1, ixN_3_0, ixN_3_1, ixN_3_2, ixN_4_0, ixN_4_1, ixN_4_2, ixN_4_3, dStart, repUn, tYesD, List.map_cons, List.map_nil, List.cons_append, List.nil_append, List.length_cons, List.length_nil, true_and, and_true, ne_eq, not_false_eq_true, reduceCtorEq, Option.some.injEq, Option.map_none, Option.map_some, Nat.reduceAdd, Nat.reduceSub, Nat.reduceLT, Nat.reduceLeDiff, Nat.zero_lt_succ, Nat.le_refl, Bool.not_true, Bool.not_false, decide_true, decide_false, Int.reduceLE, Int.reduceLT, Int.reduceEq, Int.toNat_zero, Int.reduceToNat, Int.reducePow, Int.reduceNeg, Int.toNat_one, List.set_cons_zero, List.set_cons_succ, List.not_mem_nil, List.mem_cons, false_or, or_false, forall_eq, forall_eq_or_imp, if_true, if_false, ite_true, ite_false, Bool.false_eq_true, forall_const, implies_true, false_implies])
/-! ### random jumps -/
def jmpD (j : Int × Int × Int) : PyData := .tuple [.int j.1, .int j.2.1, .int j.2.2]
inductive JumpTo (lim : Int) (gs : List (Int × Int)) : List Int → List (Int × Int × Int) → List Int → Prop where
  | nil (st : List Int) : JumpTo lim gs st [] st
  | snoc {st st1 : List Int} {js : List (Int × Int × Int)} {k l t : Int} : JumpTo lim gs st js st1 → (k, l) ∈ legMv lim gs st1 → 1 ≤ t → t ≤ szOf gs k - stAt st1 k → (0 ≤ l → t ≤ stAt st1 l) → JumpTo lim gs st (js ++ [(k, l, t)]) (appl st1 k l t)
theorem stok_set : ∀ {gs : List (Int × Int)} {st : List Int} (i : Nat) (v : Int), StOk gs st → 0 ≤ v → (∀ g, gs[i]? = some g → v ≤ g.2) → StOk gs (st.set i v)
  | _, _, i, v, .nil, _, _ => .nil
  | _, _, 0, v, .cons _ h, h0, h1 => .cons ⟨h0, h1 _ rfl⟩ h
  | _, _, i + 1, v, .cons h0 h, v0, h1 => .cons h0 (stok_set i v h v0 fun g e => h1 g e)
theorem stok_at : ∀ {gs : List (Int × Int)} {st : List Int} (i : Nat), StOk gs st → 0 ≤ (st[i]?).getD 0 ∧ (∀ g, gs[i]? = some g → (st[i]?).getD 0 ≤ g.2)
  | _, _, i, .nil => ⟨by simp, fun g e => by simp at e⟩
  | _, _, 0, .cons h _ => ⟨h.1, fun g e => by cases e; exact h.2⟩
  | _, _, i + 1, .cons _ h => stok_at i h
theorem stok_appl {lim : Int} {gs : List (Int × Int)} {st : List Int} {k l t : Int} (h : StOk gs st) (hm : (k, l) ∈ legMv lim gs st) (t0 : 1 ≤ t) (t1 : t ≤ szOf gs k - stAt st k) (t2 : 0 ≤ l → t ≤ stAt st l) : StOk gs (appl st k l t) := by
  have hm2 := allMv_mem lim gs (k, l) (List.mem_filter.mp hm).1
  have ho : StOk gs (st.set k.toNat (stAt st k + t)) := stok_set _ _ h (by have := (stok_at k.toNat h).1; unfold stAt; omega) fun g e => by
    have : szOf gs k = g.2 := by unfold szOf; rw [e]; rfl
    omega
  unfold appl
  by_cases c : 0 ≤ l
  · simp only [if_pos c]
    have hne : l.toNat ≠ k.toNat := by have := hm2.2.2.2; have := hm2.1; show l.toNat ≠ k.toNat; simp only at *; omega
    have e1 : stAt (st.set k.toNat (stAt st k + t)) l = stAt st l := by
      unfold stAt
      rw [List.getElem?_set_ne (by omega)]
    rw [e1]
    refine stok_set _ _ ho (by have := t2 c; omega) fun g e => ?_
    have := (stok_at l.toNat h).2 g e
    have e3 : stAt st l = (st[l.toNat]?).getD 0 := rfl
    omega
  · simp only [if_neg c]; exact ho
theorem heap_set : ∀ (gs : List (Int × Int)) (st : List Int) (i : Nat) (v : Int), st.length = gs.length → i < gs.length → heap gs (st.set i v) = heap gs st + (((gs[i]?).map (·.1)).getD 0) * (v - (st[i]?).getD 0)
  | g :: gs, s :: st, 0, v, _, _ => by
    simp only [List.set_cons_zero, heap, List.getElem?_cons_zero, Option.map_some, Option.getD_some, Int.mul_sub]; omega
  | g :: gs, s :: st, i + 1, v, h, hi => by
    simp only [List.length_cons] at h hi
    simp only [List.set_cons_succ, heap, List.getElem?_cons_succ]
    rw [heap_set gs st i v (by omega) (by omega)]; omega
theorem wt_get (gs : List (Int × Int)) (k : Int) (h0 : 0 ≤ k) (h1 : k < gs.length) : ((gs[k.toNat]?).map (·.1)).getD 0 = wtOf gs k := by
  obtain ⟨g, e, _, e1, _⟩ := at_gs gs k h0 h1
  rw [e, ← e1]; rfl
theorem heap_appl (gs : List (Int × Int)) (st : List Int) (k l t : Int) (hs : st.length = gs.length) (k0 : 0 ≤ k) (k1 : k < gs.length) (l0 : -1 ≤ l) (l1 : l < k) : heap gs (appl st k l t) = heap gs st + t * (wtOf gs k - wtOf gs l) := by
  have h1 := heap_set gs st k.toNat (stAt st k + t) hs (by omega)
  rw [wt_get gs k k0 k1] at h1
  have e0 : stAt st k + t - (st[k.toNat]?).getD 0 = t := by unfold stAt; omega
  rw [e0] at h1
  unfold appl
  by_cases c : 0 ≤ l
  · simp only [if_pos c]
    rw [heap_set gs _ l.toNat _ (by rw [List.length_set]; exact hs) (by omega), h1, wt_get gs l c (by omega)]
    have e1 : stAt (st.set k.toNat (stAt st k + t)) l - t - ((st.set k.toNat (stAt st k + t))[l.toNat]?).getD 0 = -t := by unfold stAt; omega
    rw [e1, Int.mul_sub, Int.mul_comm t (wtOf gs k), Int.mul_comm t (wtOf gs l), Int.mul_neg]
    omega
  · simp only [if_neg c]
    have : wtOf gs l = 0 := by unfold wtOf; rw [if_pos (by omega)]
    rw [h1, this, Int.sub_zero, Int.mul_comm]
def jumpSum (gs : List (Int × Int)) : List (Int × Int × Int) → Int
  | [] => 0
  | j :: js => j.2.2 * (wtOf gs j.1 - wtOf gs j.2.1) + jumpSum gs js
theorem jumpSum_snoc (gs : List (Int × Int)) : ∀ (js : List (Int × Int × Int)) (j : Int × Int × Int), jumpSum gs (js ++ [j]) = jumpSum gs js + j.2.2 * (wtOf gs j.1 - wtOf gs j.2.1)
  | [], j => by simp only [List.nil_append, jumpSum]; omega
  | x :: js, j => by simp only [List.cons_append, jumpSum]; rw [jumpSum_snoc gs js j]; omega
theorem jump_ok {lim : Int} {gs : List (Int × Int)} {st st' : List Int} {js : List (Int × Int × Int)} (h : JumpTo lim gs st js st') (h0 : StOk gs st) : StOk gs st' ∧ heap gs st' = heap gs st + jumpSum gs js ∧ (∀ j ∈ js, 0 ≤ j.1 ∧ j.1 < gs.length ∧ -1 ≤ j.2.1 ∧ j.2.1 < j.1 ∧ 1 ≤ j.2.2 ∧ ∀ g ∈ gs, szOf gs j.1 = g.2 → j.2.2 ≤ g.2) := by
  induction h with
  | nil => exact ⟨h0, by unfold jumpSum; omega, fun j hj => by simp at hj⟩
  | snoc hj hm t0 t1 t2 ih =>
    rename_i st1 js k l t
    obtain ⟨a, b, c⟩ := ih
    have hm2 := allMv_mem lim gs (k, l) (List.mem_filter.mp hm).1
    refine ⟨stok_appl a hm t0 t1 t2, ?_, fun j hj => ?_⟩
    · rw [heap_appl gs st1 k l t a.len hm2.1 hm2.2.1 hm2.2.2.1 hm2.2.2.2, b, jumpSum_snoc]; show _ = _ + (_ + t * (wtOf gs k - wtOf gs l)); omega
    · rcases List.mem_append.mp hj with hj | hj
      · exact c j hj
      · simp only [List.mem_singleton] at hj
        rw [hj]
        refine ⟨hm2.1, hm2.2.1, hm2.2.2.1, hm2.2.2.2, t0, fun g _ e => ?_⟩
        have := (stok_at k.toNat a).1
        have e3 : stAt st1 k = (st1[k.toNat]?).getD 0 := rfl
        show t ≤ g.2
        have e' : szOf gs k = g.2 := e
        omega
def S_law_random_jumps : DSp := fun as R Q => ∃ (xs : List PyData) (n lim : Int) (gs : List (Int × Int)) (st : List Int) (often : Int), as = [.o xs, .d (wellD lim gs), .d (stD st), .d (.int often)] ∧ Rng xs n ∧ n ≤ 900000000 ∧ WellOk lim gs ∧ StOk gs st ∧ 0 ≤ often ∧ often ≤ 1000 ∧
  ∀ st' js ys, JumpTo lim gs st js st' → (js.length : Int) ≤ often → Rng ys (n + 10 * often) → Q (.d (.tuple [stD st', .list (js.map jmpD)])) [ys]
/-- _law_random_jumps -/
def w_law_random_jumps_g1 : TGd :=
  (gN 5)
def w_law_random_jumps_b1 : TSd :=
  (sSeq (sSet 6 (dCallN 2 S_law_legal_moves (aCons (aOf (dVar 1)) (aCons (aOf (dVar 2)) aNil))))
  (sIf (dTest (dOp neD (aVar 6) (aOf (dLst dNil)))) (sSeq (sAsg (dCallN 2 S_law_pick (aCons (aVar 0) (aCons (aOf (dVar 6)) aNil))) (gTupD 2 (gConsD (gN 7) (gConsD (gN 8) gNilD))))
  (sSeq (sSet 9 (dOp subD (aOf (dOp ixD (aOf (dOp ixD (aOf (dOp ixD (aVar 1) (aOf (dC (.int 1))))) (aVar 7))) (aOf (dC (.int 1))))) (aOf (dOp ixD (aVar 2) (aVar 7)))))
  (sSeq (sSet 9 (dIf (dTest (dOp ltD (aVar 8) (aOf (dC (.int 0))))) (dVar 9) (dCB min2K (aCons (aVar 9) (aCons (aOf (dOp ixD (aVar 2) (aVar 8))) aNil)))))
  (sSeq (sSet 10 (dCallN 2 S_law_pick (aCons (aVar 0) (aCons (aOf (dLst (dCons (dC (.int 1)) (dCons (dVar 9) (dCons (dOp addD (aOf (dC (.int 1))) (aOf (dCallN 2 S_law_draw (aCons (aVar 0) (aCons (aOf (dVar 9)) aNil))))) dNil))))) aNil))))
  (sSeq (sSet 2 (dCallN 3 S_law_applied (aCons (aOf (dVar 2)) (aCons (aOf (dTup (dCons (dVar 7) (dCons (dVar 8) dNil)))) (aCons (aOf (dVar 10)) aNil)))))
  (sApp 4 (dTup (dCons (dVar 7) (dCons (dVar 8) (dCons (dVar 10) dNil)))))))))) sNext))
def w_law_random_jumps : TSd :=
  (sSeq (sSet 4 (dLst dNil))
  (sSeq (sFor (iRange1 (aVar 3)) w_law_random_jumps_g1
  w_law_random_jumps_b1)
  (sRet (dTup (dCons (dVar 2) (dCons (dVar 4) dNil))))))
theorem lay_map {α : Type} (f : α → PyData) (d : Nat) (h : ∀ p, (f p).canLay0 = true ∧ (f p).depth ≤ d) : ∀ ms : List α, PyData.canLayAll0 (ms.map f) = true ∧ PyData.depthAll (ms.map f) ≤ d
  | [] => ⟨rfl, Nat.zero_le _⟩
  | m :: ms => by
    have := lay_map f d h ms
    refine ⟨?_, ?_⟩
    · rw [List.map_cons, PyData.canLayAll0, (h m).1, this.1]; rfl
    · rw [List.map_cons, PyData.depthAll]
      have := (h m).2
      omega
theorem shaped_map {α : Type} (f : α → PyData) (d : Nat) (hd : d ≤ 63) (h : ∀ p, (f p).canLay0 = true ∧ (f p).depth ≤ d) (ms : List α) : SeqAt.shaped (.list (ms.map f)) = true := by
  have := lay_map f d h ms
  unfold SeqAt.shaped
  have e1 : (PyData.list (ms.map f)).canLay0 = true := this.1
  have e2 : (PyData.list (ms.map f)).depth ≤ 64 := by rw [PyData.depth]; omega
  rw [e1, Bool.true_and]
  exact decide_eq_true e2
theorem mv_lay (p : Int × Int) : (mvD p).canLay0 = true ∧ (mvD p).depth ≤ 2 := ⟨rfl, by simp [mvD, PyData.depth, PyData.depthAll]⟩
theorem eqv_nil {α : Type} (f : α → PyData) (ms : List α) : PyData.eqv (.list (ms.map f)) (.list []) = ms.isEmpty := by
  cases ms <;> rfl
theorem rj_loop (m : Addr) (lim : Int) (gs : List (Int × Int)) (st0 : List Int) (often : Int) (hw : WellOk lim gs) (h0 : StOk gs st0) (D : DEnds) : ∀ (n : Nat) (lo : Int) (xs : List PyData) (c : Int) (st : List Int) (js : List (Int × Int × Int)) (s5 s6 s7 s8 s9 s10 : Sl), Rng xs c → c + 10 * n ≤ 990000000 → js.length + n ≤ 1000 → JumpTo lim gs st0 js st →
    (∀ (xs : List PyData) (st' : List Int) (js' : List (Int × Int × Int)) (s5 s6 s7 s8 s9 s10 : Sl), Rng xs (c + 10 * n) → JumpTo lim gs st0 js' st' → js'.length ≤ js.length + n → D.nx [.o (some m) xs, .d (wellD lim gs), .d (stD st'), .d (.int often), .o none (js'.map jmpD), s5, s6, s7, s8, s9, s10]) →
    forD w_law_random_jumps_g1 w_law_random_jumps_b1 D (rangeD lo n) [.o (some m) xs, .d (wellD lim gs), .d (stD st), .d (.int often), .o none (js.map jmpD), s5, s6, s7, s8, s9, s10] := by
  intro n
  induction n with
  | zero => intro lo xs c st js s5 s6 s7 s8 s9 s10 hr hc hl hj q; exact q xs st js _ _ _ _ _ _ (hr.up (by omega)) hj (by omega)
  | succ n ih =>
    intro lo xs c st js s5 s6 s7 s8 s9 s10 hr hc hl hj q
    have ho := (jump_ok hj h0).1
    rw [rangeD, ev_forC]
    unfold w_law_random_jumps_g1 w_law_random_jumps_b1
    walk_at "ee"
    refine ⟨lim, gs, st, rfl, hw.len, ho.len, ?_⟩
    walk_at "ee"
    rw [eqv_nil]
    refine ⟨shaped_map mvD 2 (by decide) mv_lay _, rfl, ?_⟩
    cases hms : (legMv lim gs st).isEmpty with
    | true =>
      walk_at "ee"
      exact ih (lo + 1) xs c st js _ _ _ _ _ _ hr (by omega) (by omega) hj (fun xs st' js' s5 s6 s7 s8 s9 s10 h1 h2 h3 => q xs st' js' s5 s6 s7 s8 s9 s10 (h1.up (by omega)) h2 (by omega))
    | false =>
      walk_at "ee"
      have lm0 : 1 ≤ (legMv lim gs st).length := by
        cases e : legMv lim gs st with
        | nil => rw [e] at hms; simp at hms
        | cons _ _ => simp
      have lm1 : (legMv lim gs st).length ≤ 210 := Nat.le_trans (List.length_filter_le _ _) (allMv_len lim gs hw.len)
      refine ⟨xs, _, c, rfl, hr, by omega, by rw [List.length_map]; omega, by rw [List.length_map]; omega, fun d ys hd hr1 => ?_⟩
      obtain ⟨⟨k, l⟩, hm, rfl⟩ := List.mem_map.mp hd
      have hm2 := allMv_mem lim gs (k, l) (List.mem_filter.mp hm).1
      have hlg := (List.mem_filter.mp hm).2
      simp only at hm2
      unfold isLegal at hlg
      simp only [Bool.and_eq_true, Bool.or_eq_true, decide_eq_true_eq] at hlg
      have sl := ho.len
      walk_at "ee"
      rw [at_grp gs k hm2.1 hm2.2.1]
      walk_at "ee"
      rw [at_st st k hm2.1 (by omega)]
      walk_at "ee"
      have szk : szOf gs k ≤ 10000000000000 := by
        obtain ⟨g, e, _, _, e2⟩ := at_gs gs k hm2.1 hm2.2.1
        have := hw.sz g (List.mem_of_getElem? e)
        omega
      have st0k := (stok_at k.toNat ho).1
      have st0k' : stAt st k = (st[k.toNat]?).getD 0 := rfl
      generalize hK : kSet 9 _ = K
      have tail : ∀ f : Int, 1 ≤ f → f ≤ szOf gs k - stAt st k → (0 ≤ l → f ≤ stAt st l) → K (.d (.int f)) [.o (some m) ys, .d (wellD lim gs), .d (stD st), .d (.int often), .o none (js.map jmpD), .d (.int lo), .d (.list ((legMv lim gs st).map mvD)), .d (.int k), .d (.int l), .d (.int (szOf gs k - stAt st k)), s10] := by
        intro f f0 f1 f2
        rw [← hK]
        clear hK K
        walk_at "ee"
        refine ⟨ys, _, f, rfl, hr1, by omega, f0, by omega, fun z ys2 z0 z1 hr2 => ?_⟩
        walk_at "ee"
        refine ⟨ys2, _, _, rfl, hr2, by omega, by simp, by simp, fun d ys3 hd3 hr3 => ?_⟩
        have hd' : ∃ t : Int, d = .int t ∧ 1 ≤ t ∧ t ≤ f := by
          simp only [List.mem_cons, List.not_mem_nil, or_false] at hd3
          rcases hd3 with rfl | rfl | rfl
          · exact ⟨_, rfl, by omega, by omega⟩
          · exact ⟨_, rfl, by omega, by omega⟩
          · exact ⟨_, rfl, by omega, by omega⟩
        obtain ⟨t, rfl, t0, t1⟩ := hd'
        walk_at "ee"
        refine ⟨st, k, l, t, rfl, by have := hw.len; omega, hm2.1, by omega, by omega, ?_⟩
        walk_at "ee"
        refine ⟨by rw [List.length_map]; omega, ?_⟩
        have := ih (lo + 1) ys3 (c + 6) (appl st k l t) (js ++ [(k, l, t)]) (.d (.int lo)) (.d (.list ((legMv lim gs st).map mvD))) (.d (.int k)) (.d (.int l)) (.d (.int f)) (.d (.int t)) (hr3.up (by omega)) (by omega) (by simp only [List.length_append, List.length_cons, List.length_nil]; omega) (.snoc hj hm t0 (by omega) (fun h => by have := f2 h; omega)) (fun xs st' js' s5 s6 s7 s8 s9 s10 h1 h2 h3 => q xs st' js' s5 s6 s7 s8 s9 s10 (h1.up (by omega)) h2 (by simp only [List.length_append, List.length_cons, List.length_nil] at h3; omega))
        rw [List.map_append] at this
        exact this
      by_cases c1 : l < 0
      · rw [dT c1]
        walk_at "ee"
        exact tail _ (by omega) (by omega) (fun h => by omega)
      · rw [dF c1]
        walk_at "ee"
        rw [at_st st l (by omega) (by omega)]
        walk_at "ee"
        split
        · exact tail _ (by omega) (by omega) (fun h => by omega)
        · exact tail _ (by omega) (by omega) (fun h => by omega)
theorem b_law_random_jumps (as : List Ag) (m : Addr) (R : RXc) (Q : Rs → List (List PyData) → Prop) (hl : as.length = 4) (h : S_law_random_jumps as R Q) : w_law_random_jumps (dEnds as m Q noR) (dStart 11 as m) := by
  obtain ⟨xs, n, lim, gs, st, often, rfl, hr, hn, hw, ho, o0, o1, q⟩ := h
  unfold w_law_random_jumps
  walk_at "ee"
  refine ⟨by unfold okRg; omega, ?_⟩
  refine rj_loop m lim gs st often hw ho _ often.toNat 0 xs n st [] _ _ _ _ _ _ hr (by omega) (by simp only [List.length_nil]; omega) (.nil st) (fun xs st' js' s5 s6 s7 s8 s9 s10 h1 h2 h3 => ?_)
  walk_at "ee"
  exact q st' js' xs h2 (by simp only [List.length_nil] at h3; omega) (h1.up (by omega))
end LW

namespace LW
open PySem L2 DL
local macro_rules | `(tactic| walk_at "ee") => `(tactic| simp only [↓asB_b, ↓with1_s, ↓with2_s, ↓asI_s, ↓withL_s, ↓withA_s, ↓putI_s, ↓subI_s, ↓as2I_s, ↓appV_s, ↓isO_o, ↓ev_var, ↓ev_vd, ↓ev_vo, ↓ev_c, ↓ev_avar, ↓ev_ad, ↓ev_ao, ↓ev_kz, ↓ev_of, ↓ev_kof, ↓ev_op, ↓ev_op1, ↓ev_op2, ↓ev_op3, ↓ev_un, ↓ev_un1, ↓ev_un2, ↓ev_test, ↓ev_ktest, ↓ev_and, ↓ev_kandT, ↓ev_kandF, ↓ev_or, ↓ev_korT, ↓ev_korF, ↓ev_not, ↓ev_knot, ↓ev_andV, ↓ev_kandV, ↓ev_kandVT, ↓ev_kandVF, ↓ev_orV, ↓ev_korV, ↓ev_korVT, ↓ev_korVF, ↓ev_notV, ↓ev_knotV, ↓ev_knotV2, ↓ev_ifE, ↓ev_kifET, ↓ev_kifEF, ↓ev_chain, ↓ev_ch1, ↓ev_ch2, ↓ev_ch2b, ↓ev_ch3, ↓ev_ch4T, ↓ev_ch4F, ↓ev_ch5, ↓ev_ch6, ↓ev_nil, ↓ev_cons, ↓ev_kcons, ↓ev_kcons2, ↓ev_lst, ↓ev_klst, ↓ev_tup, ↓ev_ktup, ↓ev_rnil, ↓ev_rcons, ↓ev_krcons, ↓ev_krcons2, ↓ev_anil, ↓ev_acons, ↓ev_kacons, ↓ev_kacons2, ↓ev_pnone, ↓ev_psome, ↓ev_kp, ↓ev_kp2, ↓ev_sl, ↓ev_sl1, ↓ev_sl2, ↓ev_sl3, ↓ev_sl4, ↓ev_slL, ↓ev_slT, ↓ev_cb, ↓ev_kcb, ↓ev_kcb2, ↓ev_isi, ↓ev_kisi, ↓ev_kisi2, ↓ev_call, ↓ev_kcall, ↓ev_callK, ↓ev_kcallK, ↓ev_kq, ↓ev_comp, ↓ev_kcomp, ↓ev_kcompE, ↓ev_compN, ↓ev_compC, ↓ev_kc1, ↓ev_kc2T, ↓ev_kc2F, ↓ev_kc3, ↓ev_yes, ↓ev_gn, ↓ev_gnil, ↓ev_gcons, ↓ev_kg, ↓ev_gtup, ↓ev_seqT, ↓ev_seqL, ↓ev_sub, ↓ev_ksub, ↓ev_iseq, ↓ev_kiseq, ↓ev_seqVL, ↓ev_seqVT, ↓ev_kqd, ↓ev_rg1, ↓ev_krg1, ↓ev_krg1b, ↓ev_rg2, ↓ev_krg2, ↓ev_krg2b, ↓ev_krg2c, ↓ev_en, ↓ev_ken, ↓ev_enL, ↓ev_zp, ↓ev_kzp, ↓ev_kzp2, ↓ev_zpL, ↓ev_zpT, ↓ev_snext, ↓ev_sseq, ↓ev_knx, ↓nx_set, ↓rt_set, ↓bk_set, ↓ct_set, ↓ex_set, ↓nx_for, ↓rt_for, ↓bk_for, ↓ct_for, ↓ex_for, ↓nx_end, ↓rt_end, ↓ex_end, ↓ev_sbrk, ↓ev_scont, ↓ev_sdrop, ↓ev_kdrop, ↓ev_sret, ↓ev_sretN, ↓ev_sif, ↓ev_kifT, ↓ev_kifF, ↓ev_sset, ↓ev_kset, ↓ev_sasg, ↓ev_kasg, ↓ev_saug, ↓ev_kaug, ↓ev_kaug2, ↓ev_kaug3, ↓ev_sapp, ↓ev_kapp, ↓ev_spar, ↓ev_kpar, ↓ev_sfor, ↓ev_kfori, ↓ev_forN, ↓ev_forC, ↓ev_kfor, ↓o_addI, ↓o_addL, ↓o_addT, ↓o_addS, ↓o_sub, ↓o_iadd, ↓o_mod, ↓o_fdiv, ↓o_pow, ↓o_mulI, ↓o_mulL, ↓o_mulT, ↓o_lt, ↓o_le, ↓o_gt, ↓o_ge, ↓o_isN, ↓o_notN, ↓n_none, ↓n_int, ↓n_bool, ↓n_str, ↓n_list, ↓n_tup, ↓o_neg, ↓o_rev, ↓ixV_s, ↓o_ixL, ↓o_ixT, ↓c_abs, ↓c_intI, ↓c_intB, ↓c_lenL, ↓c_lenT, ↓c_max2, ↓c_min2, ↓c_listL, ↓c_listT, ↓c_tupL, ↓c_tupT, ↓c_divmod, ↓c_str, ↓c_sum1, ↓c_max1, ↓c_min1, ↓c_all1, ↓c_any1, ↓g_0, ↓g_s, ↓s_0, ↓s_s, ↓v_un, ↓v_d, ↓v_o, ↓res_x, ↓res_v, ↓val_d, ↓val_f, ↓sl_d, ↓sl_f, ↓ag_d, ↓ag_o, ↓cons?_s, ↓ra_nil, ↓cons2?_s, ↓ra_cons, ↓ag_nil, ↓ag_x, ↓agV_s, ↓ag_v, ↓nr_nil, ↓nr_x, ↓nrV_d, ↓nrV_o, ↓nr_v, ↓vx_nil, ↓vx_x, ↓vx_v, ↓putV_o, ↓pb_0, ↓pb_1, ↓pl_nil, ↓pl_0, ↓pl_1, ↓pl_2, ↓pl_3, ↓rd_0, ↓bx_nil, ↓bx_d, ↓bx_o, ↓rd_o, ↓kd_un, ↓kd_d, ↓sa_nil, ↓sa_cons, ↓wp_nil, ↓wp_cons, ↓rs_nil, ↓rs_cons, ↓ev_lc2, ↓ev_klc2, ↓ev_c2N, ↓ev_c2C, ↓ev_k21, ↓ev_k22T, ↓ev_k22F, ↓ev_k23, ↓ev_k24, ↓c_repr, ↓c_sort, ↓ev_callP, ↓ev_peek, ↓ev_peek2, ↓ev_scal, ↓ev_callF, ↓ev_knew, ↓ev_kdat, ↓c_listS, ↓c_tupS, ↓c_lenS, ↓o_well0, ↓o_well1, ↓seqT_g, ↓o_grp0, ↓o_grp1, ↓seqT_m, ↓o_mv0, ↓o_mv1, ↓o_st, Rs.val, Rs.sl, Ag.sl, Opd.res, Sl.val, Sl.keepD, isD_n, isD_b, isD_i, isD_s, isD_l, isD_t, eq_self, eqD_int, neD_int, eqD_ll, neD_ll, eqD_tt, neD_tt, eqD_bb, neD_bb, atI_0, atI_1, atI_2, atI_3, ixN_1_0, ixN_2_0, ixN_2_1, ixN_3_0, ixN_3_1, ixN_3_2, ixN_4_0, ixN_4_1, ixN_4_2, ixN_4_3, dStart, repUn, tYesD, List.map_cons, List.map_nil, List.cons_append, List.nil_append, List.length_cons, List.length_nil, true_and, and_true, ne_eq, not_false_eq_true, reduceCtorEq, Option.some.injEq, Option.map_none, Option.map_some, Nat.reduceAdd, Nat.reduceSub, Nat.reduceLT, Nat.reduceLeDiff, Nat.zero_lt_succ, Nat.le_refl, Bool.not_true, Bool.not_false, decide_true, decide_false, Int.reduceLE, Int.reduceLT, Int.reduceEq, Int.toNat_zero, Int.reduceToNat, Int.reducePow, Int.reduceNeg, Int.toNat_one, List.set_cons_zero, List.set_cons_succ, List.not_mem_nil, List.mem_cons, false_or, or_false, forall_eq, forall_eq_or_imp, if_true, if_false, ite_true, ite_false, Bool.false_eq_true, forall_const, implies_true, false_implies])
def S_law_right : DSp := fun as R Q => ∃ (xs : List PyData) (n : Int), as = [.o xs] ∧ Rng xs n ∧ n ≤ 1000 ∧ ∀ ys, Q (.d (.bool true)) [ys]
def S_law_as_lists : DSp := S_as_lists 12
def S_law_same : DSp := S_same 12
theorem asL_grps : ∀ gs : List (Int × Int), asLs (gs.map grpD) = gs.map fun g => .list [.int g.1, .int g.2]
  | [] => rfl
  | g :: gs => by rw [List.map_cons, asLs, asL_grps gs]; rfl
theorem asL_well (lim : Int) (gs : List (Int × Int)) : WellIs (asR (wellD lim gs)).val lim gs := by
  refine ⟨.list (asLs (gs.map grpD)), _, .inr rfl, .inr rfl, ?_⟩
  rw [asL_grps]
  induction gs with
  | nil => exact .nil
  | cons g gs ih => exact .cons (.inr rfl) ih
theorem fits_grps : ∀ gs : List (Int × Int), fits (gs.map grpD) = true
  | [] => rfl
  | g :: gs => by rw [List.map_cons, fits, fits_grps gs]; rfl
theorem depth_grps : ∀ gs : List (Int × Int), PyData.depthAll (gs.map grpD) ≤ 2
  | [] => by simp [PyData.depthAll]
  | g :: gs => by
    rw [List.map_cons, PyData.depthAll]
    have := depth_grps gs
    have e : (grpD g).depth ≤ 2 := by simp [grpD, PyData.depth, PyData.depthAll]
    omega
theorem well_fit (lim : Int) (gs : List (Int × Int)) (h : gs.length ≤ 14) : (wellD lim gs).depth < 12 ∧ fit (wellD lim gs) = true := by
  constructor
  · have := depth_grps gs
    simp only [wellD, PyData.depth, PyData.depthAll]
    omega
  · simp only [wellD, fit, fits, fits_grps, Bool.true_and, Bool.and_true, List.length_map, List.length_cons, List.length_nil]
    simp only [Bool.and_eq_true, decide_eq_true_eq]
    omega
theorem StOk.mod : ∀ {gs : List (Int × Int)} {st : List Int}, StOk gs st → (∀ g ∈ gs, 1 ≤ g.2 ∧ g.2 ≤ 10000000000000) → Mod st
  | _, _, .nil, _ => fun z hz => by simp at hz
  | g :: gs, _, .cons h hs, hw => fun z hz => by
    rcases List.mem_cons.mp hz with hz | hz
    · have := hw g (by simp); rw [hz]; omega
    · exact StOk.mod hs (fun g hg => hw g (by simp [hg])) z hz
theorem wt_bnd {gs : List (Int × Int)} (hw : ∀ g ∈ gs, 1 ≤ g.1 ∧ g.1 ≤ 200000000000) (k : Int) : 0 ≤ wtOf gs k ∧ wtOf gs k ≤ 200000000000 := by
  unfold wtOf
  split
  · omega
  · split
    · rename_i g e
      have := hw g (List.mem_of_getElem? e)
      omega
    · omega
end LW

/-! {elt for .. in .. for .. in ..}: a set of ints from two clauses -/
namespace DL
open PySem L2 PySem.Spec PyProof.Rows
abbrev SC2 (elt t0 i0 t1 i1 : Expr) (c0 c1 : List Expr) (sc : Scope) (at_ : Pos) : Expr := .SetComp elt [⟨t0, i0, c0, 0⟩, ⟨t1, i1, c1, 0⟩] sc at_
section
variable {prog : Program} {w : World} {A : Around} {R : Result → Shared → Prop} {s : Shared} {elt t0 i0 t1 i1 : Expr} {c0 c1 : List Expr} {sc : Scope} {at_ : Pos} {it acc : Value} {env : Env}
theorem sc2_turn0 : compTurn (SC2 elt t0 i0 t1 i1 c0 c1 sc at_) 0 it acc env = (do
      standAt i0.pos
      match ← pyNext it with
      | none => pure (.done .next)
      | some z =>
        letOwnedTupleGo t0 it z
        assign t0 env z
        let mut go := true
        for c in c0 do
          if go then go ← isTrue c env (eval c env)
        if go then
          let src ← eval i1 env
          standAt i1.pos
          let src ← foldedSetIterable i1 env src
          let _ ← runOwn (.compStart (SC2 elt t0 i0 t1 i1 c0 c1 sc at_) 1 (← holding [src] (pyIter src)) acc env) env
        again (.compLoop (SC2 elt t0 i0 t1 i1 c0 c1 sc at_) 0 it acc env)) := by rfl
theorem sc2_turn1 : compTurn (SC2 elt t0 i0 t1 i1 c0 c1 sc at_) 1 it acc env = (do
      standAt i1.pos
      match ← pyNext it with
      | none => pure (.done .next)
      | some z =>
        letOwnedTupleGo t1 it z
        assign t1 env z
        let mut go := true
        for c in c1 do
          if go then go ← isTrue c env (eval c env)
        if go then
          (do let z ← eval elt env; standAt elt.pos; let _ ← call (.builtin "set.add") [acc, z])
        again (.compLoop (SC2 elt t0 i0 t1 i1 c0 c1 sc at_) 1 it acc env)) := by rfl
abbrev Bad (prog : Program) (w : World) (A : Around) (env : Env) (R : Result → Shared → Prop) : Value → Shared → Prop := notedBy (model prog w) A env fun e z => R (.error e) z
abbrev allOf (cs : List Expr) (env : Env) : Sem Bool := forIn cs true fun c r => if r = true then do let ok ← isTrue c env (eval c env); pure (ForInStep.yield ok) else pure (ForInStep.yield r)
theorem sc2_outer (plain : ∀ z, foldedSetIterable i1 env z = pure z) (J : Nat → Shared → Prop)
    (step : ∀ n u, J n u → wpAny (model prog w) A (pyNext it) (fun r u1 => match r with
      | none => R (.ok .next) u1
      | some z => wpAny (model prog w) A (letOwnedTupleGo t0 it z) (fun _ u2 => wpAny (model prog w) A (assign t0 env z) (fun _ u3 => wpAny (model prog w) A (allOf c0 env) (fun go u4 =>
          if go = true then wpAny (model prog w) A (eval i1 env) (fun src u5 => wpAny (model prog w) A (pyIter src) (fun it1 u6 =>
            codeAny (model prog w) A (.compStart (SC2 elt t0 i0 t1 i1 c0 c1 sc at_) 1 it1 acc env) (fun r z => match r with
              | .ok _ => ∃ m, m < n ∧ J m z
              | .error _ => False) u6) (Bad prog w A env R) u5) (Bad prog w A env R) u4
          else ∃ m, m < n ∧ J m u4) (Bad prog w A env R) u3) (Bad prog w A env R) u2) (Bad prog w A env R) u1) (Bad prog w A env R) u)
    (n : Nat) (h : J n s) : codeAny (model prog w) A (.compLoop (SC2 elt t0 i0 t1 i1 c0 c1 sc at_) 0 it acc env) R s := by
  refine codeAny_loop rfl J (fun n u hJ => ?_) n h
  show wpAny _ A ((compTurn (SC2 elt t0 i0 t1 i1 c0 c1 sc at_) 0 it acc env).onRaise (fun x => do noteFrame x env; theTreesLotGoes x)) _ _ u
  refine wpAny_noted ?_
  rw [sc2_turn0]
  refine wpAny_bind (wpAny_standAt (wpAny_bind (wpAny_mono (step n u hJ) ?_ fun _ _ q => q)))
  intro r u1 q1
  match r, q1 with
  | none, q1 => exact wpAny_pure q1
  | some z, q1 =>
    refine wpAny_bind (wpAny_mono q1 (fun _ u2 q2 => ?_) fun _ _ q => q)
    refine wpAny_bind (wpAny_mono q2 (fun _ u3 q3 => ?_) fun _ _ q => q)
    refine wpAny_bind (wpAny_mono q3 (fun go u4 q4 => ?_) fun _ _ q => q)
    match go, q4 with
    | false, q4 => exact wpAny_pure ⟨rfl, q4⟩
    | true, q4 =>
      refine wpAny_bind (wpAny_mono q4 (fun src u5 q5 => ?_) fun _ _ q => q)
      refine wpAny_bind (wpAny_standAt (wpAny_bind (wpAny_of_eq (plain src) (wpAny_bind (wpAny_holding (wpAny_mono q5 (fun it1 u6 q6 => ?_) fun _ _ q => q))))))
      refine wpAny_bind (wpAny_runOwn ?_)
      rw [Around.mark_none]
      refine codeAny_mono q6 fun r z q => ?_
      match r, q with
      | .ok f, q =>
        first
          | exact wpAny_pure ⟨rfl, q⟩
          | exact wpAny_bind (wpAny_pure (wpAny_pure ⟨rfl, q⟩))
      | .error e, q => exact q.elim
theorem sc2_inner (J : Nat → Shared → Prop)
    (step : ∀ n u, J n u → wpAny (model prog w) A (pyNext it) (fun r u1 => match r with
      | none => R (.ok .next) u1
      | some z => wpAny (model prog w) A (letOwnedTupleGo t1 it z) (fun _ u2 => wpAny (model prog w) A (assign t1 env z) (fun _ u3 => wpAny (model prog w) A (allOf c1 env) (fun go u4 =>
          if go = true then wpAny (model prog w) A (eval elt env) (fun y u5 =>
            wpAny (model prog w) A (call (.builtin "set.add") [acc, y]) (fun _ u6 => ∃ m, m < n ∧ J m u6) (Bad prog w A env R) u5) (Bad prog w A env R) u4
          else ∃ m, m < n ∧ J m u4) (Bad prog w A env R) u3) (Bad prog w A env R) u2) (Bad prog w A env R) u1) (Bad prog w A env R) u)
    (n : Nat) (h : J n s) : codeAny (model prog w) A (.compLoop (SC2 elt t0 i0 t1 i1 c0 c1 sc at_) 1 it acc env) R s := by
  refine codeAny_loop rfl J (fun n u hJ => ?_) n h
  show wpAny _ A ((compTurn (SC2 elt t0 i0 t1 i1 c0 c1 sc at_) 1 it acc env).onRaise (fun x => do noteFrame x env; theTreesLotGoes x)) _ _ u
  refine wpAny_noted ?_
  rw [sc2_turn1]
  refine wpAny_bind (wpAny_standAt (wpAny_bind (wpAny_mono (step n u hJ) ?_ fun _ _ q => q)))
  intro r u1 q1
  match r, q1 with
  | none, q1 => exact wpAny_pure q1
  | some z, q1 =>
    refine wpAny_bind (wpAny_mono q1 (fun _ u2 q2 => ?_) fun _ _ q => q)
    refine wpAny_bind (wpAny_mono q2 (fun _ u3 q3 => ?_) fun _ _ q => q)
    refine wpAny_bind (wpAny_mono q3 (fun go u4 q4 => ?_) fun _ _ q => q)
    match go, q4 with
    | false, q4 => exact wpAny_pure ⟨rfl, q4⟩
    | true, q4 => exact wpAny_bind (wpAny_bind (wpAny_mono q4 (fun y u5 q5 => wpAny_bind (wpAny_standAt (wpAny_bind (wpAny_mono q5 (fun _ u6 q6 => wpAny_pure (wpAny_pure ⟨rfl, q6⟩)) fun _ _ q => q)))) fun _ _ q => q))
theorem sc2_start1 (h0 : codeAny (model prog w) A (.compLoop (SC2 elt t0 i0 t1 i1 c0 c1 sc at_) 1 it acc env) R s)
    (h : wpAny (model prog w) A (pyIter it) (fun it2 z => codeAny (model prog w) A (.compLoop (SC2 elt t0 i0 t1 i1 c0 c1 sc at_) 1 it2 acc env) R z) (Bad prog w A env R) s) :
    codeAny (model prog w) A (.compStart (SC2 elt t0 i0 t1 i1 c0 c1 sc at_) 1 it acc env) R s := by
  refine codeAny_of_tree ?_
  show wpAny _ _ ((compStart (SC2 elt t0 i0 t1 i1 c0 c1 sc at_) 1 it acc env).onRaise (fun x => do noteFrame x env; standAt theWindowsPlace)) _ _ s
  refine wpAny_notedAt ?_
  unfold compStart
  show wpAny _ _ (ask >>= _) _ _ s
  refine wpAny_bind (wpAny_askSetting (wpAny_ite ?_))
  have fin : ∀ {z : Shared} {it2 : Value}, codeAny (model prog w) A (.compLoop (SC2 elt t0 i0 t1 i1 c0 c1 sc at_) 1 it2 acc env) R z → True := fun _ => trivial
  split
  · first
      | exact wpAny_bind (wpAny_pure (wpAny_pure ⟨rfl, h0⟩))
      | exact wpAny_pure ⟨rfl, h0⟩
  · first
      | exact wpAny_bind (wpAny_rule (wpAny_bind (wpAny_standAt (wpAny_bind (wpAny_mono h (fun _ z q => wpAny_pure ⟨rfl, q⟩) fun _ _ x => x)))))
      | (refine wpAny_bind (wpAny_rule ?_); show wpAny _ _ (standAt i1.pos >>= _) _ _ s; exact wpAny_bind (wpAny_standAt (wpAny_bind (wpAny_mono h (fun _ z q => wpAny_pure ⟨rfl, q⟩) fun _ _ x => x))))
end
end DL

namespace DL
open PySem L2 PySem.Spec PyProof.Rows PpSet
abbrev ordB (w : World) : Bool := w.params.followText "set-order"
theorem setR_swap {w w' : World} {h : Heap} {a : Addr} {S : Int → Bool} {n : Nat} (R : SetR w h a S n) (e : ordB w' = ordB w) : SetR w' h a S n := by
  obtain ⟨o, es, ep, t, r1, r2, r3, r4, r5, r6, r7, r8, r9, r10, r11⟩ := R
  exact ⟨o, es, ep, t, r1, r2, r3, r4, r5, r6, r7, r8, r9, r10, by rw [show w'.params.followText "set-order" = w.params.followText "set-order" from e]; exact r11⟩
theorem setOb_new {w : World} {P : Program} {H : Hp} {h : Heap} {a : Addr} {S : Int → Bool} {n : Nat} (R : SetR w h a S n) : ObjOk P w H h a (SetOb (ordB w) a S n) := by
  have ⟨o, _, _, _, ho, _⟩ := R
  exact ⟨fun w' e => setR_swap R e, ⟨o, ho⟩, fun h1 h2 q k w' e => (q w' e).at k⟩
section
variable {X : Cx}
theorem setOb_get {pins : List (Addr × Obj)} {σ : L2.St} {H : Hp} {s : Shared} {a : Addr} {S : Int → Bool} {n : Nat} (I : Inv X pins σ H s) (ha : H a = some (SetOb (ordB X.w) a S n)) : SetR X.w s.heap a S n := (I.hok a _ ha).1 X.w rfl
theorem addI_ok {pins : List (Addr × Obj)} {σ : L2.St} {H : Hp} {s : Shared} {E : Value → Shared → Prop} {D : Addr} {S : Int → Bool} {n : Nat} {k : Int} {tk : Tok} {Q : Value → Shared → Prop} (I : Inv X pins σ H s) (hD : H D = some (SetOb (ordB X.w) D S n)) (few : n + 1 < scanBound)
    (h : ∀ z, Inv X pins σ (upd H D (SetOb (ordB X.w) D (fun j => S j || decide (j = k)) (if S k = true then n else n + 1))) z → Q .none z) : wpAny (model X.prog X.w) X.A (call (.builtin "set.add") [.ref D, .int k tk]) Q E s := by
  refine setR_add (setOb_get I hD) few fun G sb new => ?_
  obtain ⟨o, _, _, _, ho, _⟩ := id new
  exact h _ (I.write (e := D) (t' := s.toks + 1) (by rw [hD]; trivial) (.inl rfl) (fun b u hb hu => (sb.2 b hb).trans hu) ⟨o, ho⟩ (setOb_new new))
/-- what {elt for .. in .. if .. for .. in .. if ..} does: D the new set -/
def tSc2 (w : World) (wi : TI) (g : TG) (tt : TT) (wi1 : TI) (g1 : TG) (tt1 : TT) (te : TE) (vs vs1 : List Nat) : TE := fun σ H Q => wi σ H fun J H1 => ∀ D, H1 D = none → ∃ W : Nat → Nat → Hp → Prop, (∃ m, W 0 m (upd H1 D (SetOb (ordB w) D (fun _ => false) 0))) ∧ ∀ i m G, W i m G →
  (J.stop i G ∧ Q (.ref D) G) ∨ (J.go i G ∧ ∃ Nx : Hp → Prop, (∀ G', Nx G' → ∃ m', m' < m ∧ W (i + 1) m' G') ∧ ∀ x G', J.yld i G x G' → g x (wipe σ vs) G' fun σ2 G2 => wipe σ2 vs = wipe σ vs ∧ tt σ2 G2 fun b G3 =>
    if b = true then wi1 σ2 G3 fun J1 G4 => ∃ W1 : Nat → Nat → Hp → Prop, (∃ m, W1 0 m G4) ∧ ∀ j k G, W1 j k G →
      (J1.stop j G ∧ Nx G) ∨ (J1.go j G ∧ ∃ Nx1 : Hp → Prop, (∀ G', Nx1 G' → ∃ k', k' < k ∧ W1 (j + 1) k' G') ∧ ∀ x G', J1.yld j G x G' → g1 x (wipe σ2 vs1) G' fun σ3 G5 => wipe σ3 vs1 = wipe σ2 vs1 ∧ tt1 σ3 G5 fun b G6 =>
        if b = true then te σ3 G6 fun y G7 => ∃ (k : Int) (S : Int → Bool) (n : Nat), y = .int k ∧ G7 D = some (SetOb (ordB w) D S n) ∧ n + 1 < scanBound ∧ Nx1 (upd G7 D (SetOb (ordB w) D (fun j => S j || decide (j = k)) (if S k = true then n else n + 1))) else Nx1 G6)
    else Nx G3)
abbrev Blk (X : Cx) (P : (Cx) → Prop) (sc : Scope) : Prop := ∀ (s : Shared) (H : Hp) (C : Addr) (cl : List (Str × Addr)) (fp : List Addr), P (X.blk s H sc (compEnvC sc cl C X.env) fp)
theorem sc2_core {pins : List (Addr × Obj)} {s : Shared} {σ : L2.St} {H : Hp} {Q : VK} {elt tg iter tg1 iter1 : Expr} {ifs ifs1 : List Expr} {sc : Scope} {own : List (Str × Nat)} {vs1 : List Nat} {pos pos' : Pos} {wi wi1 : TI} {g g1 : TG} {tt tt1 : TT} {te : TE} {use : Option (Value → Sem Unit)} {Qf : Value → Shared → Prop}
    (calm : X.calm = true) (nd : X.N.Nodup) (I : Inv X pins σ H s) (hi : PI X tg iter wi) (ok : BlkOk X.N X.env.scope sc own) (sub : ∀ i ∈ vs1, i ∈ own.map (·.2))
    (hg : Blk X (fun Y => PG Y tg g) sc) (ht : Blk X (fun Y => PTs Y ifs tt) sc) (he : Blk X (fun Y => PE Y elt te) sc) (plain : ∀ x, foldedSetIterable iter X.env x = pure x)
    (hi1 : Blk X (fun Y => PI Y tg1 iter1 wi1) sc) (hg1 : Blk X (fun Y => PG Y tg1 g1) sc) (ht1 : Blk X (fun Y => PTs Y ifs1 tt1) sc) (plain1 : ∀ env x, foldedSetIterable iter1 env x = pure x)
    (h : tSc2 X.w wi g tt wi1 g1 tt1 te (own.map (·.2)) vs1 σ H Q)
    (fin0 : ∀ D C z m G, Inv X pins σ G z → Q (.ref D) G → z.heap.Ns C m → FpOk X pins G C → compPost (model X.prog X.w) X.A X.xe use Qf (.ref D) C (.ok .next) z) :
    wpAny (model X.prog X.w) X.A (comprehension (SC2 elt tg iter tg1 iter1 ifs ifs1 sc pos) sc X.env pos' (newSet (.type "set")) false (eval iter X.env) use) Qf X.xe s := by
  have cells : ∀ y ∈ sc.names, y.2 = .free → ∃ c, X.env.cells.lookup y.1 = some c := fun y hy e => by
    rcases ok.free y hy e with k | k
    · exact I.ok.has _ (.inl k)
    · exact I.ok.has _ (.inr k)
  refine wpAny_comprehension_free (use := use) rfl plain (closure_ok cells) ok.kind (fun y hy e => by rw [ok.uniq y hy, e]) (thn (hi.run pins s σ H _ I h) fun xv z1 hx => thn hx fun iv z2 a2 => ?_)
  obtain ⟨it, fp, tn, J, G2, e, I2, T, st2, f2, q⟩ := a2
  subst e
  refine newSet_ok (newEnv_comp ?_)
  generalize hD : z2.heap.objs.size = D
  have gD : G2 D = none := I2.hok.fresh (Nat.le_of_eq hD)
  obtain ⟨W, ⟨m0, w0⟩, turn⟩ := q D gD
  -- the set is laid
  generalize hz3 : ({ z2 with heap := z2.heap.push (bare0 X.w) } : Shared) = z3
  generalize hG3 : upd G2 D (SetOb (ordB X.w) D (fun _ => false) 0) = G3 at w0
  have hp3 : z3.heap = z2.heap.push (bare0 X.w) := by rw [← hz3]
  have I3 : Inv X pins σ G3 z3 := by
    rw [← hz3, ← hG3]
    refine I2.laid (t' := z2.toks) (fun b o e => Heap.get?_push_of_some _ e) (Nat.le_of_eq hD) ?_
    rw [← hD]
    exact setOb_new (setR_fresh X.w)
  have below : ∀ b ∈ fp, b < z2.heap.objs.size := fun b hb => by
    obtain ⟨o, e, _⟩ := T.obj _ _ st2 b hb
    exact Heap.lt_size e
  have f3 : ∀ b ∈ fp, FpOk X pins G3 b ∧ b < z3.heap.objs.size := fun b hb => by
    have lt := below b hb
    refine ⟨⟨?_, (f2 b hb).2⟩, by rw [hp3, Heap.size_push]; exact Nat.lt_succ_of_lt lt⟩
    rw [← hG3, upd_ne (by rw [← hD]; exact Nat.ne_of_lt lt)]
    exact (f2 b hb).1
  have st3 : tn 0 z3.heap := T.keep _ _ _ st2 fun b _ o e => by rw [hp3]; exact Heap.get?_push_of_some _ e
  have I4 := block_start I3 ok nd f3
  generalize hC : z3.heap.objs.size = C at I4
  generalize hcl : cellsFrom (C + 1) sc.names (cloFrom X.env.cells sc.names []) = cl at I4
  have pg := hg z3 G3 C cl fp
  have pt := ht z3 G3 C cl fp
  have pe := he z3 G3 C cl fp
  have pi1 := hi1 z3 G3 C cl fp
  have pg1 := hg1 z3 G3 C cl fp
  have pt1 := ht1 z3 G3 C cl fp
  have shape : codeAny (model X.prog X.w) X.A (.compStart (SC2 elt tg iter tg1 iter1 ifs ifs1 sc pos) 0 (.ref it) (.ref D) (compEnvC sc cl C X.env)) (compPost (model X.prog X.w) X.A X.xe use Qf (.ref D) C) { z3 with heap := pushCells (z3.heap.push { cls := .type "dict", data := .dict #[] }) sc.names } := by
    have nfp : ∀ b ∈ fp, G3 b = none := fun b hb => (f3 b hb).1.1
    generalize hce : compEnvC sc cl C X.env = ce at I4 pg pt pe pi1 pg1 pt1 ⊢
    have cL : ce.locals = C := by subst hce; rfl
    generalize hz4 : ({ z3 with heap := pushCells (z3.heap.push { cls := .type "dict", data := .dict #[] }) sc.names } : Shared) = z4 at I4 ⊢
    have st4 : tn 0 z4.heap := T.keep _ _ _ st3 fun b _ o e => by rw [← hz4]; exact pushCells_keeps _ _ _ _ (Heap.get?_push_of_some _ e)
    have foot : ∀ {τ : L2.St} {G : Hp} {z : Shared}, Inv (X.blk z3 G3 sc ce fp) [] τ G z → (∀ b ∈ fp, G b = none) → ∀ b ∈ fp, FpOk (X.blk z3 G3 sc ce fp) [] G b := fun {τ G z} J1 hn b hb =>
      ⟨hn b hb, (J1.ok.exf b hb).1, J1.ok.exfs b hb, .inl hb, fun x c e => (J1.ok.exf b hb).2 x c e, fun p hp => absurd (show p ∈ ([] : List (Addr × Obj)) ++ [] from hp) (by simp)⟩
    have loop : codeAny (model X.prog X.w) X.A (.compLoop (SC2 elt tg iter tg1 iter1 ifs ifs1 sc pos) 0 (.ref it) (.ref D) ce) (compPost (model X.prog X.w) X.A X.xe use Qf (.ref D) C) z4 := by
      refine sc2_outer (plain1 ce) (fun n z => ∃ i G, Inv (X.blk z3 G3 sc ce fp) [] (wipe σ (own.map (·.2))) G z ∧ tn i z.heap ∧ (∀ b ∈ fp, G b = none) ∧ W i n G) ?_ m0 ⟨0, G3, I4, st4, nfp, w0⟩
      rintro n z5 ⟨i, G5, I5, st5, n5, w5⟩
      rcases turn i n G5 w5 with ⟨stop, qq⟩ | ⟨go, Nx, hNx, step⟩
      · refine thnF (T.done (X.blk z3 G3 sc ce fp) rfl rfl rfl calm i [] z5 _ G5 (fun _ _ => False) I5 (foot I5 n5) st5 stop) fun r z6 ⟨er, I6⟩ => ?_
        subst er
        have I7 : Inv X pins σ G5 z6 := I3.call' (ch := fp) I6.os I6.base I6.hok I6.bare fun b hb => ⟨(f3 b hb).1.2.2.2.1, (f3 b hb).1.2.1, (f3 b hb).1.2.2.2.2.1, (f3 b hb).1.2.2.2.2.2⟩
        have nC : G5 C = none := by
          have z : G5 ce.locals = none := I6.free
          rwa [cL] at z
        obtain ⟨m, hn, _⟩ := I6.loc
        have hn : z6.heap.Ns ce.locals m := hn
        rw [cL] at hn
        exact fin0 D C z6 m G5 I7 qq hn (I3.fpOk (Nat.le_of_eq hC) nC)
      · refine thnF (T.item (X.blk z3 G3 sc ce fp) rfl rfl rfl calm i [] z5 _ G5 (fun _ _ => False) I5 (foot I5 n5) st5 go) fun r z6 ⟨u, er, a6⟩ => ?_
        subst er
        refine thnF a6 fun _ z7 ⟨x, G7, I7, r7, y7, st7, n7⟩ => ?_
        have I7' := I7.pinned (foot I7 n7) (T.obj _ _ st7)
        refine thnF (pg.run _ z7 _ G7 x u _ I7' r7 (step x G7 y7)) fun _ z8 ⟨τ, G8, I8, hw8, q8⟩ => ?_
        refine thnF (pt.run _ z8 τ G8 _ I8 q8) fun b z9 ⟨G9, I9, q9⟩ => ?_
        have back : ∀ {τ' : L2.St} {z : Shared} {G : Hp}, Inv (X.blk z3 G3 sc ce fp) ([] ++ pinsAt fp z7.heap) τ' G z → (wipe σ (own.map (·.2))).length = τ'.length → (∀ (j : Nat) v, (wipe σ (own.map (·.2)))[j]? = some (some v) → τ'[j]? = some (some v)) → Nx G →
            ∃ m, m < n ∧ ∃ i G, Inv (X.blk z3 G3 sc ce fp) [] (wipe σ (own.map (·.2))) G z ∧ tn i z.heap ∧ (∀ b ∈ fp, G b = none) ∧ W i m G := fun {τ' z G} J1 hl hk nx => by
          obtain ⟨m', hm, w'⟩ := hNx G nx
          have held : ∀ b ∈ fp, ∀ o, z7.heap.get? b = some o → z.heap.get? b = some o ∧ G b = none := fun b hb o e =>
            let q := J1.pin (b, o) (List.mem_append_right _ (List.mem_append_right _ (mem_pinsAt hb e)))
            ⟨q.1, q.2.1⟩
          refine ⟨m', hm, i + 1, G, (J1.unpinned (pins := [])).weak hl hk, T.keep _ _ _ st7 fun b hb o e => (held b hb o e).1, fun b hb => ?_, w'⟩
          obtain ⟨o, e, _⟩ := T.obj _ _ st7 b hb
          exact (held b hb o e).2
        have l8 : (wipe σ (own.map (·.2))).length = τ.length := by rw [← hw8, wipe_length]
        have k8 : ∀ (j : Nat) v, (wipe σ (own.map (·.2)))[j]? = some (some v) → τ[j]? = some (some v) := fun j v e => by
          rw [← hw8] at e
          exact (wipe_some e).1
        have k9 : ∀ (j : Nat) v, (wipe σ (own.map (·.2)))[j]? = some (some v) → (wipe τ vs1)[j]? = some (some v) := fun j v e => by
          rw [← hw8] at e
          obtain ⟨e1, e2⟩ := wipe_some e
          rw [wipe_out fun q => e2 (sub j q)]
          exact e1
        cases b with
        | false =>
          rw [if_neg Bool.false_ne_true] at q9
          show if false = true then _ else _
          rw [if_neg Bool.false_ne_true]
          exact back I9 l8 k8 q9
        | true =>
          rw [if_pos rfl] at q9
          show if true = true then _ else _
          rw [if_pos rfl]
          refine thnF (pi1.run _ z9 τ G9 _ I9 q9) fun xv z10 hx => thnF hx fun iv z11 a11 => ?_
          obtain ⟨it1, fp1, tn1, J1, G11, e1, I11, T1, st11, f11, W1, ⟨m1, w1⟩, turn1⟩ := a11
          subst e1
          have foot1 : ∀ {G : Hp}, (∀ b ∈ fp1, G b = none) → ∀ b ∈ fp1, FpOk (X.blk z3 G3 sc ce fp) ([] ++ pinsAt fp z7.heap) G b := fun hn b hb => ⟨hn b hb, (f11 b hb).2⟩
          have loop1 : codeAny (model X.prog X.w) X.A (.compLoop (SC2 elt tg iter tg1 iter1 ifs ifs1 sc pos) 1 (.ref it1) (.ref D) ce)
              (fun r z => match r with
                | .ok _ => ∃ m, m < n ∧ ∃ i G, Inv (X.blk z3 G3 sc ce fp) [] (wipe σ (own.map (·.2))) G z ∧ tn i z.heap ∧ (∀ b ∈ fp, G b = none) ∧ W i m G
                | .error _ => False) z11 := by
            refine sc2_inner (fun k z => ∃ j G, Inv (X.blk z3 G3 sc ce fp) ([] ++ pinsAt fp z7.heap) (wipe τ vs1) G z ∧ tn1 j z.heap ∧ (∀ b ∈ fp1, G b = none) ∧ W1 j k G) ?_ m1 ⟨0, G11, I11.weak (wipe_length _ _) (fun j v e => (wipe_some e).1), st11, fun b hb => (f11 b hb).1, w1⟩
            rintro k z12 ⟨j, G12, I12, st12, n12, w12⟩
            rcases turn1 j k G12 w12 with ⟨stop1, nx1⟩ | ⟨go1, Nx1, hNx1, step1⟩
            · refine thnF (T1.done (X.blk z3 G3 sc ce fp) rfl rfl rfl calm j _ z12 (wipe τ vs1) G12 (fun _ _ => False) I12 (foot1 n12) st12 stop1) fun r z13 ⟨er, I13⟩ => ?_
              subst er
              exact back I13 (l8.trans (wipe_length τ vs1).symm) k9 nx1
            · refine thnF (T1.item (X.blk z3 G3 sc ce fp) rfl rfl rfl calm j _ z12 (wipe τ vs1) G12 (fun _ _ => False) I12 (foot1 n12) st12 go1) fun r z13 ⟨u1, er, a13⟩ => ?_
              subst er
              refine thnF a13 fun _ z14 ⟨x1, G14, I14, r14, y14, st14, n14⟩ => ?_
              have I14' := I14.pinned (foot1 n14) (T1.obj _ _ st14)
              refine thnF (pg1.run _ z14 (wipe τ vs1) G14 x1 u1 _ I14' r14 (step1 x1 G14 y14)) fun _ z15 ⟨τ5, G15, I15, hw15, q15⟩ => ?_
              refine thnF (pt1.run _ z15 τ5 G15 _ I15 q15) fun b1 z16 ⟨G16, I16, q16⟩ => ?_
              have back1 : ∀ {z : Shared} {G : Hp}, Inv (X.blk z3 G3 sc ce fp) (([] ++ pinsAt fp z7.heap) ++ pinsAt fp1 z14.heap) τ5 G z → Nx1 G → ∃ m, m < k ∧ ∃ j G, Inv (X.blk z3 G3 sc ce fp) ([] ++ pinsAt fp z7.heap) (wipe τ vs1) G z ∧ tn1 j z.heap ∧ (∀ b ∈ fp1, G b = none) ∧ W1 j m G := fun {z G} K1 nx => by
                obtain ⟨m', hm, w'⟩ := hNx1 G nx
                have held : ∀ b ∈ fp1, ∀ o, z14.heap.get? b = some o → z.heap.get? b = some o ∧ G b = none := fun b hb o e =>
                  let q := K1.pin (b, o) (List.mem_append_right _ (List.mem_append_right _ (mem_pinsAt hb e)))
                  ⟨q.1, q.2.1⟩
                refine ⟨m', hm, j + 1, G, K1.unpinned.weak (by rw [← hw15, wipe_length]) (fun j v e => by rw [← hw15] at e; exact (wipe_some e).1), T1.keep _ _ _ st14 fun b hb o e => (held b hb o e).1, fun b hb => ?_, w'⟩
                obtain ⟨o, e, _⟩ := T1.obj _ _ st14 b hb
                exact (held b hb o e).2
              cases b1 with
              | false =>
                rw [if_neg Bool.false_ne_true] at q16
                show if false = true then _ else _
                rw [if_neg Bool.false_ne_true]
                exact back1 I16 q16
              | true =>
                rw [if_pos rfl] at q16
                show if true = true then _ else _
                rw [if_pos rfl]
                refine thnF (pe.run _ z16 τ5 G16 _ I16 q16) fun y z17 ⟨yv, G17, I17, r17, kk, S0, n0, ey, hD17, few, nx⟩ => ?_
                subst ey
                obtain ⟨tk, rfl⟩ := r17
                exact addI_ok (X := X.blk z3 G3 sc ce fp) I17 hD17 few fun z18 I18 => back1 I18 nx
          exact sc2_start1 loop1 (T1.self X.A 0 _ _ _ st11 loop1)
    exact codeAny_compStart_set loop (T.self X.A 0 _ _ _ st4 loop)
  first | exact shape | (rw [← hC] at shape; exact shape) | (rw [← hcl] at shape; exact shape)
end
end DL

namespace DL
open PySem L2 RZ PySem.Spec PyProof.Rows
/-- the datum of a set of areI -/
def setD (b : Bool) (ks : List Int) : PyData := .dict [(.bool b, .list (ks.map .int))]
def mySet (w : World) (D : Addr) (ks : List Int) (n : Nat) : HO := SetOb (ordB w) D (fun j => decide (j ∈ ks)) n
theorem mySet_nil {w : World} {D : Addr} {n : Nat} : SetOb (ordB w) D (fun _ => false) n = mySet w D [] n := by
  unfold mySet
  congr 1
theorem mySet_snoc {w : World} {D : Addr} {ks : List Int} {n : Nat} {k : Int} : SetOb (ordB w) D (fun j => decide (j ∈ ks) || decide (j = k)) n = mySet w D (ks ++ [k]) n := by
  unfold mySet
  congr 1
  funext j
  by_cases h1 : j ∈ ks <;> by_cases h2 : j = k <;> simp [h1, h2]
/-- one clause's turns: the areI that it adds -/
def compS (vs : List Nat) (g : TGd) (tt : TTd) (te : TD) : List PyData → List Int → DSt → (List Int → DSt → Prop) → Prop
  | [], acc, δ, Q => Q acc δ
  | x :: xs, acc, δ, Q => g x (wipeD δ vs) fun δ1 => tt δ1 noR fun b δ2 => if b = true then te δ2 noR fun r δ3 => ∃ k : Int, r.val = .int k ∧ acc.length + 1 < scanBound ∧ compS vs g tt te xs (acc ++ [k]) δ3 Q else compS vs g tt te xs acc δ2 Q
def compS2 (vs vs1 : List Nat) (g : TGd) (tt : TTd) (ti1 : TDs) (g1 : TGd) (tt1 : TTd) (te : TD) : List PyData → List Int → DSt → (List Int → DSt → Prop) → Prop
  | [], acc, δ, Q => Q acc δ
  | x :: xs, acc, δ, Q => g x (wipeD δ vs) fun δ1 => tt δ1 noR fun b δ2 => if b = true then ti1 δ2 noR fun ys δ3 => compS vs1 g1 tt1 te ys acc δ3 fun acc' δ4 => compS2 vs vs1 g tt ti1 g1 tt1 te xs acc' δ4 Q else compS2 vs vs1 g tt ti1 g1 tt1 te xs acc δ2 Q
def dSetC2 (b : Bool) (vs vs1 : List Nat) (ti : TDs) (g : TGd) (tt : TTd) (ti1 : TDs) (g1 : TGd) (tt1 : TTd) (te : TD) : TD := fun δ R Q => ti δ R fun xs δ1 => compS2 vs vs1 g tt ti1 g1 tt1 te xs [] δ1 fun acc δ2 => Q (.d (setD b acc)) (restD δ1 δ2 vs)
theorem Got.int1 {r : Rs} {v : V} {δ : DSt} {σ : L2.St} {O P : List Addr} {H : Hp} {k : Int} (g : Got r v δ σ O P H) (e : r.val = .int k) : Rel δ σ O P H ∧ v = .int k := by
  cases r with
  | d x =>
    obtain ⟨R, d⟩ := g
    have e : x = .int k := e
    subst e
    cases d
    exact ⟨R, rfl⟩
  | f xs => exact nomatch e
  | p _ _ => exact nomatch e
section
variable {X : Cx} {E : XS} {elt tg iter tg1 iter1 : Expr} {ifs ifs1 : List Expr} {scope : Scope} {own : List (Str × Nat)} {pos : Pos} {ti ti1 : TDs} {g g1 : TGd} {tt tt1 : TTd} {te : TD} {vs vs1 : List Nat}
theorem de_sc2_core (hv : ∀ i ∈ vs1, i ∈ vs) (hi : DI X E tg iter ti) (hg : ∀ (s : Shared) (H : Hp) (C : Addr) (cl : List (Str × Addr)) (fp : List Addr), DG (X.blk s H scope (compEnvC scope cl C X.env) fp) vs tg g)
    (ht : ∀ (s : Shared) (H : Hp) (C : Addr) (cl : List (Str × Addr)) (fp : List Addr), DTs (X.blk s H scope (compEnvC scope cl C X.env) fp) ifs tt)
    (hi1 : ∀ (s : Shared) (H : Hp) (C : Addr) (cl : List (Str × Addr)) (fp : List Addr), DI (X.blk s H scope (compEnvC scope cl C X.env) fp) E0s tg1 iter1 ti1)
    (hg1 : ∀ (s : Shared) (H : Hp) (C : Addr) (cl : List (Str × Addr)) (fp : List Addr), DG (X.blk s H scope (compEnvC scope cl C X.env) fp) vs1 tg1 g1)
    (ht1 : ∀ (s : Shared) (H : Hp) (C : Addr) (cl : List (Str × Addr)) (fp : List Addr), DTs (X.blk s H scope (compEnvC scope cl C X.env) fp) ifs1 tt1)
    (he : ∀ (s : Shared) (H : Hp) (C : Addr) (cl : List (Str × Addr)) (fp : List Addr), DE (X.blk s H scope (compEnvC scope cl C X.env) fp) E0s elt te) :
    ∃ wi, PI X tg iter wi ∧ ∀ (δ : DSt) (σ : L2.St) (O P : List Addr) (H : Hp) (R : RX) (Q' : Rs → DSt → Prop) (Q : VK), Rel δ σ O P H → ExW E O P H R → dSetC2 (ordB X.w) vs vs1 ti g tt ti1 g1 tt1 te δ R Q' →
      (∀ r v δ' O' H', Got r v δ' σ O' P H' → Stp O H O' H' → Q' r δ' → Q v H') → tSc2 X.w wi (wkG X scope tg) (wkT X scope ifs) (wkI X scope tg1 iter1) (wkG X scope tg1) (wkT X scope ifs1) (wkE X scope elt) vs vs1 σ H Q := by
  obtain ⟨wi, pi, qi⟩ := hi.ex
  refine ⟨wi, pi, fun δ σ O P H R Q' Q I w h k => ?_⟩
  refine qi δ σ O P H R _ _ I w h fun J xs δ1 O1 H1 R1 s1 it h1 => ?_
  intro D nD
  have nOP := R1.fresh nD
  simp only [List.mem_append, not_or] at nOP
  refine ⟨fun i m Hc => ∃ (δc : DSt) (acc : List Int) (cnt : Nat) (Oc : List Addr), m = xs.length - i ∧ i ≤ xs.length ∧ Rel (wipeD δc vs) (wipe σ vs) Oc (D :: P) Hc ∧ Stp O1 H1 Oc Hc ∧ Hc D = some (mySet X.w D acc cnt) ∧ cnt ≤ acc.length ∧
    compS2 vs vs1 g tt ti1 g1 tt1 te (xs.drop i) acc δc fun acc δ2 => Q' (.d (setD (ordB X.w) acc)) (restD δ1 δ2 vs), ⟨xs.length, δ1, [], 0, O1, rfl, Nat.zero_le _, (R1.wiped vs).newp nD, .newd nD, by rw [upd_same, mySet_nil], Nat.le_refl _, h1⟩, ?_⟩
  rintro i m Hc ⟨δc, acc, cnt, Oc, rfl, hi', Rc, sc, hD, da, hc⟩
  have nDO : D ∉ Oc := fun z => Rc.dis D z (by simp)
  have sc' : Stp O1 H1 (D :: Oc) Hc := ⟨fun a o h n => ⟨(sc.keep a o h n).1, fun z => by
    rcases List.mem_cons.mp z with z | z
    · rw [z, nD] at h; cases h
    · exact (sc.keep a o h n).2 z⟩, sc.there⟩
  have trkc : ∀ a, a ∈ (D :: Oc) ++ P → Hc a ≠ none := fun a m => Rc.trk a (memPO a |>.mp m)
  by_cases hlt : i < xs.length
  · have hx : xs[i]? = some xs[i] := List.getElem?_eq_getElem hlt
    rw [List.drop_eq_getElem_cons hlt] at hc
    have hgo := (it (D :: Oc) Hc sc'.le trkc i).1 _ hx
    refine .inr ⟨hgo.1, (fun H' => ∃ (δc : DSt) (acc : List Int) (cnt : Nat) (Oc : List Addr), Rel (wipeD δc vs) (wipe σ vs) Oc (D :: P) H' ∧ Stp O1 H1 Oc H' ∧ H' D = some (mySet X.w D acc cnt) ∧ cnt ≤ acc.length ∧
        compS2 vs vs1 g tt ti1 g1 tt1 te (xs.drop (i + 1)) acc δc fun acc δ2 => Q' (.d (setD (ordB X.w) acc)) (restD δ1 δ2 vs)), fun H' n => ?_, fun x H' y => ?_⟩
    · obtain ⟨δc, acc, cnt, Oc, q1, q2, q3, q4, q5⟩ := n
      exact ⟨xs.length - (i + 1), by omega, δc, acc, cnt, Oc, rfl, hlt, q1, q2, q3, q4, q5⟩
    · obtain ⟨dx, hH⟩ := hgo.2 x H' y
      rw [frzPO] at dx
      have Rn : Rel (wipeD δc vs) (wipe σ vs) Oc (D :: P) H' ∧ Stp Oc Hc Oc H' := by
        rcases hH with rfl | ⟨T, o, nT, rfl⟩
        · exact ⟨Rc, .refl⟩
        · exact ⟨Rc.newd nT, .newd nT⟩
      obtain ⟨Rn, sn⟩ := Rn
      have sn1 := sc.trans sn
      have hDn := (sn.keep D _ hD nDO).1
      intro s0 H0 C cl fp pins s u I2 r2
      obtain ⟨tg', pg, qg⟩ := (hg s0 H0 C cl fp).ex
      refine pg.run pins s (wipe σ vs) H' x u _ I2 r2 (qg _ x _ _ Oc (D :: P) H' _ _ Rn dx hc fun δ2 σ2 O2 H2 R2 s2 w2 h2 => ⟨(w2 vs fun _ z => z).trans wipe_wipe, ?_⟩)
      have e2 : wipe σ2 vs = wipe σ vs := (w2 vs fun _ z => z).trans wipe_wipe
      have hD2 := s2.keep D _ hDn nDO
      intro s0 H0 C cl fp pins s I3
      obtain ⟨tt', pt, qt⟩ := (ht s0 H0 C cl fp).ex
      refine pt.run pins s σ2 H2 _ I3 (qt δ2 σ2 O2 (D :: P) H2 _ _ R2 h2 fun b δ3 O3 H3 R3 s3 h3 => ?_)
      have hD3 := s3.keep D _ hD2.1 hD2.2
      have st3 := (sn1.trans s2).trans s3
      cases b with
      | false =>
        refine iteF ⟨δ3, acc, cnt, O3, by rw [← e2]; exact R3.wiped vs, st3, hD3.1, da, h3⟩
      | true =>
        refine iteT ?_
        intro s0 H0 C cl fp
        obtain ⟨wi1, pi1, qi1⟩ := (hi1 s0 H0 C cl fp).ex
        refine ⟨wi1, pi1, qi1 δ3 σ2 O3 (D :: P) H3 noR _ _ R3 .no h3 fun J1 ys δ4 O4 H4 R4 s4 it1 h4 => ?_⟩
        have hD4 := s4.keep D _ hD3.1 hD3.2
        have st4 := st3.trans s4
        refine ⟨fun j k Hj => ∃ (δj : DSt) (accj : List Int) (cntj : Nat) (Oj : List Addr), k = ys.length - j ∧ j ≤ ys.length ∧ Rel (wipeD δj vs1) (wipe σ2 vs1) Oj (D :: P) Hj ∧ Stp O1 H1 Oj Hj ∧ Le (frz (O4 ++ (D :: P)) H4) (frz (Oj ++ (D :: P)) Hj) ∧ Hj D = some (mySet X.w D accj cntj) ∧ cntj ≤ accj.length ∧
          compS vs1 g1 tt1 te (ys.drop j) accj δj fun acc' δ4 => compS2 vs vs1 g tt ti1 g1 tt1 te (xs.drop (i + 1)) acc' δ4 fun acc δ2 => Q' (.d (setD (ordB X.w) acc)) (restD δ1 δ2 vs), ⟨ys.length, δ4, acc, cnt, O4, rfl, Nat.zero_le _, R4.wiped vs1, st4, Le.refl _, hD4.1, da, h4⟩, ?_⟩
        rintro j k' Hj ⟨δj, accj, cntj, Oj, rfl, hj, Rj, sj, lej, hDj, daj, hcj⟩
        have nDOj : D ∉ Oj := fun z => Rj.dis D z (by simp)
        by_cases hltj : j < ys.length
        · have hy : ys[j]? = some ys[j] := List.getElem?_eq_getElem hltj
          rw [List.drop_eq_getElem_cons hltj] at hcj
          have hgoj := (it1 Oj Hj lej Rj.trk j).1 _ hy
          refine .inr ⟨hgoj.1, (fun H' => ∃ (δj : DSt) (accj : List Int) (cntj : Nat) (Oj : List Addr), Rel (wipeD δj vs1) (wipe σ2 vs1) Oj (D :: P) H' ∧ Stp O1 H1 Oj H' ∧ Le (frz (O4 ++ (D :: P)) H4) (frz (Oj ++ (D :: P)) H') ∧ H' D = some (mySet X.w D accj cntj) ∧ cntj ≤ accj.length ∧
              compS vs1 g1 tt1 te (ys.drop (j + 1)) accj δj fun acc' δ4 => compS2 vs vs1 g tt ti1 g1 tt1 te (xs.drop (i + 1)) acc' δ4 fun acc δ2 => Q' (.d (setD (ordB X.w) acc)) (restD δ1 δ2 vs)), fun H' n => ?_, fun z H' yy => ?_⟩
          · obtain ⟨δj, accj, cntj, Oj, q1, q2, q3, q4, q5, q6⟩ := n
            exact ⟨ys.length - (j + 1), by omega, δj, accj, cntj, Oj, rfl, hltj, q1, q2, q3, q4, q5, q6⟩
          · obtain ⟨dz, hH⟩ := hgoj.2 z H' yy
            have Rn : Rel (wipeD δj vs1) (wipe σ2 vs1) Oj (D :: P) H' ∧ Stp Oj Hj Oj H' := by
              rcases hH with rfl | ⟨T, o, nT, rfl⟩
              · exact ⟨Rj, .refl⟩
              · exact ⟨Rj.newd nT, .newd nT⟩
            obtain ⟨Rn, sn⟩ := Rn
            have sjn := sj.trans sn
            have ljn := lej.trans sn.le
            have hDn := (sn.keep D _ hDj nDOj).1
            intro s0 H0 C cl fp pins s u I2 r2
            obtain ⟨tg', pg, qg⟩ := (hg1 s0 H0 C cl fp).ex
            refine pg.run pins s (wipe σ2 vs1) H' z u _ I2 r2 (qg _ z _ _ Oj (D :: P) H' _ _ Rn dz hcj fun δ5 σ5 O5 H5 R5 s5 w5 h5 => ⟨(w5 vs1 fun _ z => z).trans wipe_wipe, ?_⟩)
            have e5 : wipe σ5 vs1 = wipe σ2 vs1 := (w5 vs1 fun _ z => z).trans wipe_wipe
            have hD5 := s5.keep D _ hDn nDOj
            intro s0 H0 C cl fp pins s I3
            obtain ⟨tt', pt, qt⟩ := (ht1 s0 H0 C cl fp).ex
            refine pt.run pins s σ5 H5 _ I3 (qt δ5 σ5 O5 (D :: P) H5 _ _ R5 h5 fun b δ6 O6 H6 R6 s6 h6 => ?_)
            have hD6 := s6.keep D _ hD5.1 hD5.2
            have st6 := (sjn.trans s5).trans s6
            have l6 := (ljn.trans s5.le).trans s6.le
            cases b with
            | false =>
              refine iteF ⟨δ6, accj, cntj, O6, by rw [← e5]; exact R6.wiped vs1, st6, l6, hD6.1, daj, h6⟩
            | true =>
              refine iteT ?_
              intro s0 H0 C cl fp pins s I4
              obtain ⟨te', pe, qe⟩ := (he s0 H0 C cl fp).ex
              refine pe.run pins s σ5 H6 _ I4 (qe δ6 σ5 O6 (D :: P) H6 noR _ _ R6 .no h6 fun r v δ7 O7 H7 g7 s7 h7 => ?_)
              obtain ⟨kk, ek, fewk, h7⟩ := h7
              obtain ⟨R8, ev⟩ := g7.int1 ek
              have hD8 := s7.keep D _ hD6.1 hD6.2
              have st8 := st6.trans s7
              refine ⟨kk, _, cntj, ev, hD8.1, by omega, δ7, accj ++ [kk], _, O7, by rw [← e5]; exact (R8.wiped vs1).updp, ⟨fun a o ha n => ?_, fun a ha => ?_⟩, by rw [frz_updP]; exact l6.trans s7.le, by rw [upd_same, mySet_snoc], ?_, h7⟩
              · have q := st8.keep a o ha n
                exact ⟨by rw [upd_ne (fun z => by rw [z, nD] at ha; cases ha)]; exact q.1, q.2⟩
              · by_cases z : a = D
                · rw [z, nD] at ha; exact (ha rfl).elim
                · rw [upd_ne z]; exact st8.there a ha
              · rw [List.length_append, List.length_singleton]
                split <;> omega
        · have e : j = ys.length := by omega
          subst e
          rw [List.drop_length] at hcj
          have hst := (it1 Oj Hj lej Rj.trk ys.length).2 rfl
          refine .inl ⟨hst, δj, accj, cntj, Oj, ?_, sj, hDj, daj, hcj⟩
          have := Rj.wiped vs
          rw [wipeD_sub hv, wipe_sub hv, e2] at this
          exact this
  · have e : i = xs.length := by omega
    subst e
    rw [List.drop_length] at hc
    have hst := (it (D :: Oc) Hc sc'.le trkc xs.length).2 rfl
    refine .inl ⟨hst, ?_⟩
    have Rr : Rel (restD δ1 δc vs) σ Oc (D :: P) Hc := Rc.rested fun j y _ gy => by
      obtain ⟨v, q1, q2⟩ := R1.dat j y (gs_d gy)
      refine ⟨v, q1, ?_⟩
      have q3 := sc'.dp q2
      rw [frzPO] at q3
      exact q3
    have nDo : D ∉ Oc := fun z => Rc.dis D z (by simp)
    exact k (.d (setD (ordB X.w) acc)) _ _ Oc Hc ⟨Rr.dropp, .st (frz_some.mpr ⟨by simp only [List.mem_append, not_or]; exact ⟨nDo, nOP.2⟩, hD⟩) fun _ => rfl⟩ (s1.trans sc) hc
theorem pe_sc2 {wi wi1 : TI} {g g1 : TG} {tt tt1 : TT} {te : TE} {vs1 : List Nat} (calm : X.calm = true) (nd : X.N.Nodup) (hi : PI X tg iter wi) (ok : BlkOk X.N X.env.scope scope own) (sub : ∀ i ∈ vs1, i ∈ own.map (·.2))
    (hg : Blk X (fun Y => PG Y tg g) scope) (ht : Blk X (fun Y => PTs Y ifs tt) scope) (hi1 : Blk X (fun Y => PI Y tg1 iter1 wi1) scope) (hg1 : Blk X (fun Y => PG Y tg1 g1) scope) (ht1 : Blk X (fun Y => PTs Y ifs1 tt1) scope)
    (he : Blk X (fun Y => PE Y elt te) scope) (plain : ∀ x, foldedSetIterable iter X.env x = pure x := by intro _; rfl) (plain1 : ∀ env x, foldedSetIterable iter1 env x = pure x := by intro _ _; rfl) :
    PE X (SC2 elt tg iter tg1 iter1 ifs ifs1 scope pos) (tSc2 X.w wi g tt wi1 g1 tt1 te (own.map (·.2)) vs1) := by
  constructor
  intro pins s σ H Q I h
  rw [PpSet.eval_SetComp]
  refine sc2_core (use := none) calm nd I hi ok sub hg ht he plain hi1 hg1 ht1 plain1 h fun D C z m G J q hn f => ⟨m, hn, fun z2 sb => ?_⟩
  have back := J.turned (t' := z.toks) (fun b o hb e => (sb.2 b hb).trans e) f.1 f.2.1 f.2.2.2.1 f.2.2.2.2.1 f.2.2.2.2.2
  exact ⟨.ref D, G, back, rfl, q⟩
theorem ps_setSc2 {i : Nat} {y : Str} {py spos : Pos} {wi wi1 : TI} {g g1 : TG} {tt tt1 : TT} {te : TE} {vs1 : List Nat} (calm : X.calm = true) (nd : X.N.Nodup) (at_ : X.N[i]? = some y) (loc : X.env.scope.names.lookup y = some .local)
    (sw : swapsWith (SC2 elt tg iter tg1 iter1 ifs ifs1 scope pos) (some (.Name y py)) spos.line X.env = pure true) (hi : PI X tg iter wi) (ok : BlkOk X.N X.env.scope scope own) (sub : ∀ i ∈ vs1, i ∈ own.map (·.2))
    (hg : Blk X (fun Y => PG Y tg g) scope) (ht : Blk X (fun Y => PTs Y ifs tt) scope) (hi1 : Blk X (fun Y => PI Y tg1 iter1 wi1) scope) (hg1 : Blk X (fun Y => PG Y tg1 g1) scope) (ht1 : Blk X (fun Y => PTs Y ifs1 tt1) scope)
    (he : Blk X (fun Y => PE Y elt te) scope) (plain : ∀ x, foldedSetIterable iter X.env x = pure x := by intro _; rfl) (plain1 : ∀ env x, foldedSetIterable iter1 env x = pure x := by intro _ _; rfl) :
    PS X (.Assign [.Name y py] (SC2 elt tg iter tg1 iter1 ifs ifs1 scope pos) spos) (tAsg (tSc2 X.w wi g tt wi1 g1 tt1 te (own.map (·.2)) vs1) (gName i)) := by
  constructor
  intro pins s σ H D I h
  have h : tSc2 X.w wi g tt wi1 g1 tt1 te (own.map (·.2)) vs1 σ H (fun x G => gName i x σ G D.nx) := h
  rw [exec_Assign_Name_used _ _ _ _ sw]
  refine wpAny_bind (wpAny_standAt (wpAny_bind ?_))
  show wpAny _ X.A (do let _ ← comprehension (SC2 elt tg iter tg1 iter1 ifs ifs1 scope pos) scope X.env (firstIterPos [⟨tg, iter, ifs, 0⟩, ⟨tg1, iter1, ifs1, 0⟩] pos) (newSet (.type "set")) false (eval iter X.env) (some (assign (.Name y py) X.env))) _ _ s
  refine wpAny_bind (thn (sc2_core (Qf := fun _ z => SP X pins D .next z) calm nd I hi ok sub hg ht he plain hi1 hg1 ht1 plain1 h fun L C z m G J q hn f => ?_) fun _ _ done => wpAny_pure (wpAny_pure done))
  show wpAny _ _ (assign (.Name y py) X.env (.ref L)) _ _ _
  refine wpAny_assign_Name (store_ok2 (v := V.ref L) J nd at_ (.inl loc) rfl (fun z2 J2 held => ?_) (.inr loc))
  obtain ⟨a, sb, ha⟩ := held
  have off : C ≠ a := by
    rcases ha with e | e
    · rw [e]; exact f.2.1
    · exact fun k => f.2.2.2.2.1 y a e k.symm
  refine ⟨m, hn.sameBut sb off, fun z3 sb3 => ?_⟩
  exact ⟨_, G, J2.turned (t' := z2.toks) (fun b o hb e => (sb3.2 b hb).trans e) f.1 f.2.1 f.2.2.2.1 f.2.2.2.2.1 f.2.2.2.2.2, q⟩
theorem sw_trueS {elt : Expr} {gs : List Comprehension} {scope : Scope} {pos py : Pos} {y : Str} {l : Nat} {env : Env} (kind : env.scope.kind = .function) (loc : env.scope.names.lookup y = some .local) (line : (py.line == pos.line) = true)
    (free : (scope.names.any fun (n, k) => n == y && (k == .local || k == .cell)) = false) : swapsWith (.SetComp elt gs scope pos) (some (.Name y py)) l env = pure true := by
  have k1 : env.kindOf y = some .local := loc
  have k2 : env.blockKind = .function := by unfold Env.blockKind; rw [kind]; rfl
  unfold swapsWith
  simp only [k1, k2, free, Expr.pos, line]
  rfl
theorem de_sc2 (hc : X.calm = true) (hN : X.N.Nodup) (ok : BlkOk X.N X.env.scope scope own) (hv : ∀ i ∈ vs1, i ∈ own.map (·.2)) (hi : DI X E tg iter ti) (hg : ∀ (s : Shared) (H : Hp) (C : Addr) (cl : List (Str × Addr)) (fp : List Addr), DG (X.blk s H scope (compEnvC scope cl C X.env) fp) (own.map (·.2)) tg g)
    (ht : ∀ (s : Shared) (H : Hp) (C : Addr) (cl : List (Str × Addr)) (fp : List Addr), DTs (X.blk s H scope (compEnvC scope cl C X.env) fp) ifs tt)
    (hi1 : ∀ (s : Shared) (H : Hp) (C : Addr) (cl : List (Str × Addr)) (fp : List Addr), DI (X.blk s H scope (compEnvC scope cl C X.env) fp) E0s tg1 iter1 ti1)
    (hg1 : ∀ (s : Shared) (H : Hp) (C : Addr) (cl : List (Str × Addr)) (fp : List Addr), DG (X.blk s H scope (compEnvC scope cl C X.env) fp) vs1 tg1 g1)
    (ht1 : ∀ (s : Shared) (H : Hp) (C : Addr) (cl : List (Str × Addr)) (fp : List Addr), DTs (X.blk s H scope (compEnvC scope cl C X.env) fp) ifs1 tt1)
    (he : ∀ (s : Shared) (H : Hp) (C : Addr) (cl : List (Str × Addr)) (fp : List Addr), DE (X.blk s H scope (compEnvC scope cl C X.env) fp) E0s elt te) (hs : ∀ x, foldedSetIterable iter X.env x = pure x := by intro _; rfl) (hs1 : ∀ env x, foldedSetIterable iter1 env x = pure x := by intro _ _; rfl) :
    DE X E (SC2 elt tg iter tg1 iter1 ifs ifs1 scope pos) (dSetC2 (ordB X.w) (own.map (·.2)) vs1 ti g tt ti1 g1 tt1 te) := by
  obtain ⟨wi, pi, q⟩ := de_sc2_core hv hi hg ht hi1 hg1 ht1 he
  exact ⟨_, pe_sc2 hc hN pi ok hv (fun s H C cl fp => ⟨fun pins s σ H v u Q I r h => h _ _ _ _ _ pins s u I r⟩) (fun s H C cl fp => ⟨fun pins s σ H Q I h => h _ _ _ _ _ pins s I⟩) (pi_wk hi1) (fun s H C cl fp => ⟨fun pins s σ H v u Q I r h => h _ _ _ _ _ pins s u I r⟩) (fun s H C cl fp => ⟨fun pins s σ H Q I h => h _ _ _ _ _ pins s I⟩) (fun s H C cl fp => ⟨fun pins s σ H Q I h => h _ _ _ _ _ pins s I⟩) hs hs1, q⟩
theorem ds_setSc2 {i : Nat} {y : Str} {py spos : Pos} (hc : X.calm = true) (hN : X.N.Nodup) (hy : X.N[i]? = some y) (hyl : X.env.scope.names.lookup y = some .local) (hsw : swapsWith (SC2 elt tg iter tg1 iter1 ifs ifs1 scope pos) (some (.Name y py)) spos.line X.env = pure true) (ok : BlkOk X.N X.env.scope scope own) (hv : ∀ i ∈ vs1, i ∈ own.map (·.2)) (hi : DI X E tg iter ti) (hg : ∀ (s : Shared) (H : Hp) (C : Addr) (cl : List (Str × Addr)) (fp : List Addr), DG (X.blk s H scope (compEnvC scope cl C X.env) fp) (own.map (·.2)) tg g)
    (ht : ∀ (s : Shared) (H : Hp) (C : Addr) (cl : List (Str × Addr)) (fp : List Addr), DTs (X.blk s H scope (compEnvC scope cl C X.env) fp) ifs tt)
    (hi1 : ∀ (s : Shared) (H : Hp) (C : Addr) (cl : List (Str × Addr)) (fp : List Addr), DI (X.blk s H scope (compEnvC scope cl C X.env) fp) E0s tg1 iter1 ti1)
    (hg1 : ∀ (s : Shared) (H : Hp) (C : Addr) (cl : List (Str × Addr)) (fp : List Addr), DG (X.blk s H scope (compEnvC scope cl C X.env) fp) vs1 tg1 g1)
    (ht1 : ∀ (s : Shared) (H : Hp) (C : Addr) (cl : List (Str × Addr)) (fp : List Addr), DTs (X.blk s H scope (compEnvC scope cl C X.env) fp) ifs1 tt1)
    (he : ∀ (s : Shared) (H : Hp) (C : Addr) (cl : List (Str × Addr)) (fp : List Addr), DE (X.blk s H scope (compEnvC scope cl C X.env) fp) E0s elt te) (hs : ∀ x, foldedSetIterable iter X.env x = pure x := by intro _; rfl) (hs1 : ∀ env x, foldedSetIterable iter1 env x = pure x := by intro _ _; rfl) :
    DS X E (.Assign [.Name y py] (SC2 elt tg iter tg1 iter1 ifs ifs1 scope pos) spos) (sSet i (dSetC2 (ordB X.w) (own.map (·.2)) vs1 ti g tt ti1 g1 tt1 te)) := by
  obtain ⟨wi, pi, q⟩ := de_sc2_core hv hi hg ht hi1 hg1 ht1 he
  refine ⟨_, ps_setSc2 (g := wkG X scope tg) (tt := wkT X scope ifs) (wi1 := wkI X scope tg1 iter1) (g1 := wkG X scope tg1) (tt1 := wkT X scope ifs1) (te := wkE X scope elt) hc hN hy hyl hsw pi ok hv (fun s H C cl fp => ⟨fun pins s σ H v u Q I r h => h _ _ _ _ _ pins s u I r⟩) (fun s H C cl fp => ⟨fun pins s σ H Q I h => h _ _ _ _ _ pins s I⟩) (pi_wk hi1) (fun s H C cl fp => ⟨fun pins s σ H v u Q I r h => h _ _ _ _ _ pins s u I r⟩) (fun s H C cl fp => ⟨fun pins s σ H Q I h => h _ _ _ _ _ pins s I⟩) (fun s H C cl fp => ⟨fun pins s σ H Q I h => h _ _ _ _ _ pins s I⟩) hs hs1, fun δ σ O P H DD D I L h => ?_⟩
  refine q δ σ O P H _ _ _ I L.ex h fun r v δ1 O1 H1 g1 s1 h1 => ?_
  rw [ss_eq] at h1
  exact L.nx _ _ O1 H1 (Rel.set g1 h1.1) s1 h1.2
end
/-! sorted(x), x such a set -/
theorem sorted_setN {P : Program} {w : World} {A : Around} {E : Value → Shared → Prop} {s : Shared} {a : Addr} {S : Int → Bool} {n : Nat} {Q : Value → Shared → Prop} (R : SetR w s.heap a S n) (free : A.handled = none)
    (done : ∀ (z : Shared) (p : Addr) (out : List Value) (c : Nat) (ns : List Int), (∀ b o, s.heap.get? b = some o → z.heap.get? b = some o) → z.gens = s.gens → z.os = s.os → s.heap.objs.size ≤ p →
      z.heap.get? p = some (seqObj "list" out.toArray c) → IntsAre out ns → ns.Pairwise (· < ·) → (∀ k, k ∈ ns ↔ S k = true) → ns.length ≤ sizeLine → Q (.ref p) z) :
    wpAny (model P w) A (call (.builtin "sorted") [.ref a]) Q E s := by
  obtain ⟨ob, es, ep, tb, at_, exact_, data, good, once, mem, small, fits, cnt, ris, led⟩ := R
  have line : ∀ m : Nat, m < scanBound → m ≤ sizeLine := fun m h => by
    have : scanBound ≤ sizeLine := by rw [sizeLine_eq]; decide
    omega
  refine Calls.call_function_entry kind_sorted plain_sorted entry_sorted (args_sorted1 _) ?_
  unfold Builtin.«sorted»
  refine wpAny_bind (m := checkCount "sorted" 1 1 _) (wpAny_pure (wpAny_bind (collect_set (A := A.in1) free ⟨ob, at_, exact_.1, data⟩ fits small ris led fun z vs keep grow gens os perm => ?_)))
  have areI : IntsAre vs (vs.map Builtin.Re.reRawOf) := ints_of vs fun v hv => by
    obtain ⟨e, he, q⟩ := List.mem_map.mp (perm.mem_iff.mp hv)
    obtain ⟨k, tk, h1, _⟩ := good e he
    exact ⟨k, tk, q ▸ h1⟩
  have keys : (vs.map Builtin.Re.reRawOf).Perm (es.toList.map keyOf) := by
    have q := perm.map Builtin.Re.reRawOf
    rwa [List.map_map] at q
  have len : vs.length = es.size := by rw [perm.length_eq, List.length_map, Array.length_toList]
  have room : vs.length ≤ sizeLine := by rw [len]; exact line _ small
  refine wpAny_bind (wpAny_newList ?_ room)
  have here : (z.heap.push (seqObj "list" vs.toArray 0)).get? z.heap.objs.size = some (seqObj "list" vs.toArray 0) := Heap.get?_push_size _ rfl
  refine wpAny_bind (wpAny_holding (wpAny_call_entry slot_list_sort ⟨_, here, rfl⟩ entry_list_sort (SrtO.list_sort_ord SrtO.swo_int here room (fun two => SrtO.ints_sortable areI two) fun out h1 h2 => ⟨.none, rfl, ?_⟩) (args_list_sort _)))
  obtain ⟨k1, k2, k3⟩ := SrtO.ints_out areI h1 h2
  obtain ⟨c, hc⟩ := sortedHeap_at (vs := vs) (out := out.toArray) here
  have pn : (out.map SrtO.iv).Perm (es.toList.map keyOf) := k2.trans keys
  refine wpAny_pure ⟨_, rfl, done _ z.heap.objs.size out c (out.map SrtO.iv) (fun b o e => ?_) gens os grow hc k1 (lt_of_le_nodup _ k3 (pn.nodup_iff.mpr once)) (fun k => by rw [pn.mem_iff, ← mem k]) ?_⟩
  · have q := keep b o e
    have lt := Heap.lt_size q
    show (sortedHeap (z.heap.push (seqObj "list" vs.toArray 0)) z.heap.objs.size vs out.toArray).get? b = some o
    rw [sortedHeap_old (Nat.ne_of_lt lt) (by rw [size_push']; exact Nat.lt_succ_of_lt lt)]
    exact Heap.get?_push_of_some _ q
  · rw [pn.length_eq, List.length_map, Array.length_toList]
    exact line _ small
/-- sorted(a set of areI) -/
def rSortedN (w : World) : RC := fun xs H Q => ∃ (a : Addr) (S : Int → Bool) (n : Nat), xs = [.ref a] ∧ H a = some (SetOb (ordB w) a S n) ∧
  ∀ (ns : List Int) (p : Addr), ns.Pairwise (· < ·) → (∀ k : Int, k ∈ ns ↔ S k = true) → H p = none → Q (.ref p) (upd H p (.lst (ns.map V.int)))
theorem call_sortedN {X : Cx} (calm : X.calm = true) : CallR X (.builtin "sorted") (rSortedN X.w) := by
  intro pins s σ H xs us Q I r h
  obtain ⟨a, S, n, rfl, ha, q⟩ := h
  rw [Vals.ref1 r]
  refine sorted_setN (setOb_get I ha) (I.ok.hd calm) fun z p out c ns keep gens os new at_ areI up mem room => ?_
  have none_ : H p = none := I.hok.fresh new
  have J : Inv X pins σ (upd H p (.lst (ns.map V.int))) { s with heap := z.heap, gens := z.gens, drawn := z.drawn, toks := z.toks } :=
    I.call (ch := []) (Un.laid keep new none_) (I.hok.laid keep new ⟨by rw [List.length_map]; exact room, out, c, vals_of_ints areI, at_⟩) (by rw [gens]; exact I.bare) (fun _ k => nomatch k)
  have e : z = { s with heap := z.heap, gens := z.gens, drawn := z.drawn, toks := z.toks } := by
    cases z
    cases s
    cases os
    rfl
  rw [e]
  exact ⟨.ref p, _, J, rfl, q ns p up mem none_⟩
section
variable {X : Cx} {E : XS} {e : Expr} {te : TD} {pos p : Pos}
def kSorN (b : Bool) (Q : Rs → DSt → Prop) : Rs → DSt → Prop := fun r δ1 => ∃ ks : List Int, r.val = setD b ks ∧ ∀ ns : List Int, ns.Pairwise (· < ·) → (∀ k : Int, k ∈ ns ↔ k ∈ ks) → Q (.f (ns.map .int)) δ1
def dSorN (b : Bool) (te : TD) : TD := fun δ R Q => te δ R (kSorN b Q)
theorem ev_sorn (b : Bool) (te : TD) (δ : DSt) (R : RX) (Q) : dSorN b te δ R Q = te δ R (kSorN b Q) := rfl
theorem ev_ksorn (b : Bool) (Q r) (δ : DSt) : kSorN b Q r δ = ∃ ks : List Int, r.val = setD b ks ∧ ∀ ns : List Int, ns.Pairwise (· < ·) → (∀ k : Int, k ∈ ns ↔ k ∈ ks) → Q (.f (ns.map .int)) δ := rfl
theorem de_sorN (hc : X.calm = true) (hg : Gl X "sorted") (hm : X.mg "sorted" = none) (he : DE X E e te)
    (hs : starEach (e :: []) X.env = (false, eval e X.env) :: starEach [] X.env := by rfl) (hpl : (backTo pos (starEach [] X.env)).any (·.1) = false := by rfl) :
    DE X E (.Call (.Name "sorted" p) [e] [] pos) (dSorN (ordB X.w) te) := by
  obtain ⟨t, pt, q⟩ := he.ex
  refine ⟨_, pe_callB (call_sortedN hc) hg hm (by decide +kernel) (pa_cons pt pa_nil hs) (by decide) (by decide) hs hpl, fun δ σ O P H R Q' Q I w h k => ?_⟩
  refine q δ σ O P H R _ _ I w h fun r v δ1 O1 H1 g s1 h1 => ?_
  obtain ⟨O2, R2, d, s2⟩ := g.share s1
  obtain ⟨ks, e1, h1⟩ := h1
  rw [e1] at d
  unfold setD at d
  generalize hl : ks.map PyData.int = l at d
  cases d with
  | st hst hS =>
    rename_i a S n ks'
    have ek : ks' = ks := by
      have inj : ∀ a b : List Int, a.map PyData.int = b.map PyData.int → a = b := by
        intro a
        induction a with
        | nil => intro b e; cases b with
          | nil => rfl
          | cons y b => cases e
        | cons x a ih =>
          intro b e
          cases b with
          | nil => cases e
          | cons y b =>
            rw [List.map_cons, List.map_cons] at e
            injection e with e1 e2
            injection e1 with e1
            rw [e1, ih b e2]
      exact (inj _ _ hl).symm
    subst ek
    refine ⟨a, S, n, rfl, (frz_some.mp hst).2, fun ns b up mem nb => ?_⟩
    exact k (.f (ns.map .int)) (.ref b) δ1 (b :: O2) _ (.newl R2 nb (dpa_ints ns)) (s2.trans (.newo nb)) (h1 ns up fun k => by rw [mem k, hS k, decide_eq_true_eq])
end
end DL

namespace DL
open PySem L2 RZ PySem.Spec
/-! steps of a set from two clauses -/
section
variable (b : Bool) (vs vs1 : List Nat) (g : TGd) (tt : TTd) (ti1 : TDs) (g1 : TGd) (tt1 : TTd) (te : TD)
def kZE (b : Bool) (vs : List Nat) (δ1 : DSt) (Q : Rs → DSt → Prop) : List Int → DSt → Prop := fun acc δ2 => Q (.d (setD b acc)) (restD δ1 δ2 vs)
def kZ0 (Q : Rs → DSt → Prop) : List PyData → DSt → Prop := fun xs δ1 => compS2 vs vs1 g tt ti1 g1 tt1 te xs [] δ1 (kZE b vs δ1 Q)
def kZ4 (xs : List PyData) (Q : List Int → DSt → Prop) : List Int → DSt → Prop := fun acc' δ4 => compS2 vs vs1 g tt ti1 g1 tt1 te xs acc' δ4 Q
def kZ3 (xs : List PyData) (acc : List Int) (Q : List Int → DSt → Prop) : List PyData → DSt → Prop := fun ys δ3 => compS vs1 g1 tt1 te ys acc δ3 (kZ4 vs vs1 g tt ti1 g1 tt1 te xs Q)
def kZ2 (xs : List PyData) (acc : List Int) (Q : List Int → DSt → Prop) : Bool → DSt → Prop := fun b δ2 => if b = true then ti1 δ2 noR (kZ3 vs vs1 g tt ti1 g1 tt1 te xs acc Q) else compS2 vs vs1 g tt ti1 g1 tt1 te xs acc δ2 Q
def kZ1 (xs : List PyData) (acc : List Int) (Q : List Int → DSt → Prop) : DSt → Prop := fun δ1 => tt δ1 noR (kZ2 vs vs1 g tt ti1 g1 tt1 te xs acc Q)
def kY3 (xs : List PyData) (acc : List Int) (Q : List Int → DSt → Prop) : Rs → DSt → Prop := fun r δ3 => ∃ k : Int, r.val = .int k ∧ acc.length + 1 < scanBound ∧ compS vs g tt te xs (acc ++ [k]) δ3 Q
def kY2 (xs : List PyData) (acc : List Int) (Q : List Int → DSt → Prop) : Bool → DSt → Prop := fun b δ2 => if b = true then te δ2 noR (kY3 vs g tt te xs acc Q) else compS vs g tt te xs acc δ2 Q
def kY1 (xs : List PyData) (acc : List Int) (Q : List Int → DSt → Prop) : DSt → Prop := fun δ1 => tt δ1 noR (kY2 vs g tt te xs acc Q)
theorem ev_zc2 (ti : TDs) (δ : DSt) (R : RX) (Q) : dSetC2 b vs vs1 ti g tt ti1 g1 tt1 te δ R Q = ti δ R (kZ0 b vs vs1 g tt ti1 g1 tt1 te Q) := rfl
theorem ev_kz0 (Q xs) (δ : DSt) : kZ0 b vs vs1 g tt ti1 g1 tt1 te Q xs δ = compS2 vs vs1 g tt ti1 g1 tt1 te xs [] δ (kZE b vs δ Q) := rfl
theorem ev_kze (δ1 Q acc) (δ : DSt) : kZE b vs δ1 Q acc δ = Q (.d (setD b acc)) (restD δ1 δ vs) := rfl
theorem ev_z2N (acc Q) (δ : DSt) : compS2 vs vs1 g tt ti1 g1 tt1 te [] acc δ Q = Q acc δ := rfl
theorem ev_z2C (x xs acc Q) (δ : DSt) : compS2 vs vs1 g tt ti1 g1 tt1 te (x :: xs) acc δ Q = g x (wipeD δ vs) (kZ1 vs vs1 g tt ti1 g1 tt1 te xs acc Q) := rfl
theorem ev_kz1 (xs acc Q) (δ : DSt) : kZ1 vs vs1 g tt ti1 g1 tt1 te xs acc Q δ = tt δ noR (kZ2 vs vs1 g tt ti1 g1 tt1 te xs acc Q) := rfl
theorem ev_kz2T (xs acc Q) (δ : DSt) : kZ2 vs vs1 g tt ti1 g1 tt1 te xs acc Q true δ = ti1 δ noR (kZ3 vs vs1 g tt ti1 g1 tt1 te xs acc Q) := rfl
theorem ev_kz2F (xs acc Q) (δ : DSt) : kZ2 vs vs1 g tt ti1 g1 tt1 te xs acc Q false δ = compS2 vs vs1 g tt ti1 g1 tt1 te xs acc δ Q := rfl
theorem ev_kz3 (xs acc Q ys) (δ : DSt) : kZ3 vs vs1 g tt ti1 g1 tt1 te xs acc Q ys δ = compS vs1 g1 tt1 te ys acc δ (kZ4 vs vs1 g tt ti1 g1 tt1 te xs Q) := rfl
theorem ev_kz4 (xs Q acc) (δ : DSt) : kZ4 vs vs1 g tt ti1 g1 tt1 te xs Q acc δ = compS2 vs vs1 g tt ti1 g1 tt1 te xs acc δ Q := rfl
theorem ev_y1N (acc Q) (δ : DSt) : compS vs g tt te [] acc δ Q = Q acc δ := rfl
theorem ev_y1C (x xs acc Q) (δ : DSt) : compS vs g tt te (x :: xs) acc δ Q = g x (wipeD δ vs) (kY1 vs g tt te xs acc Q) := rfl
theorem ev_ky1 (xs acc Q) (δ : DSt) : kY1 vs g tt te xs acc Q δ = tt δ noR (kY2 vs g tt te xs acc Q) := rfl
theorem ev_ky2T (xs acc Q) (δ : DSt) : kY2 vs g tt te xs acc Q true δ = te δ noR (kY3 vs g tt te xs acc Q) := rfl
theorem ev_ky2F (xs acc Q) (δ : DSt) : kY2 vs g tt te xs acc Q false δ = compS vs g tt te xs acc δ Q := rfl
theorem ev_ky3 (xs acc Q r) (δ : DSt) : kY3 vs g tt te xs acc Q r δ = ∃ k : Int, r.val = .int k ∧ acc.length + 1 < scanBound ∧ compS vs g tt te xs (acc ++ [k]) δ Q := rfl
end
end DL

namespace DL
open PySem L2 RZ
/-! a tuple of two new lists: returned, and taken apart into two names -/
section
variable {δ : DSt} {σ : L2.St} {O O1 O2 P : List Addr} {H : Hp}
/-- between what it needs and what it bears -/
theorem Rel.mid (R1 : Rel δ σ O1 P H) (R2 : Rel δ σ O2 P H) (h1 : ∀ a ∈ O1, a ∈ O) (h2 : ∀ a ∈ O, a ∈ O2) : Rel δ σ O P H := by
  have le : Le (frz (O2 ++ P) H) (frz (O ++ P) H) := fun a o h => by
    obtain ⟨n, h⟩ := frz_some.mp h
    refine frz_some.mpr ⟨fun m => n ?_, h⟩
    rcases List.mem_append.mp m with m | m
    · exact List.mem_append_left _ (h2 a m)
    · exact List.mem_append_right _ m
  refine ⟨R1.len, fun i x e => ?_, fun i m xs e => ?_, R1.inj, fun a m => ?_, fun a m => R2.dis a (h2 a m)⟩
  · obtain ⟨v, a, b⟩ := R2.dat i x e
    exact ⟨v, a, dp_le le _ _ b⟩
  · obtain ⟨a, vs, k1, k2, k3, k4, k5⟩ := R1.own i m xs e
    obtain ⟨a', vs', j1, _, _, j4, j5⟩ := R2.own i m xs e
    rw [k1] at j1; cases j1
    rw [k4] at j4; cases j4
    exact ⟨a, vs, k1, k2, h1 a k3, k4, dpa_le le _ _ j5⟩
  · rcases List.mem_append.mp m with m | m
    · exact R2.trk a (List.mem_append_left _ (h2 a m))
    · exact R2.trk a (List.mem_append_right _ m)
/-- a slot gives its list away -/
theorem Rel.give {i : Nat} {m : Option Addr} {xs : List PyData} (R : Rel δ σ O P H) (e : δ[i]? = some (.o m xs)) :
    ∃ a vs, σ[i]? = some (some (.ref a)) ∧ a ∈ O ∧ H a = some (.lst vs) ∧ DqAll (frz (O ++ P) H) vs xs ∧ Rel (δ.set i .un) σ (O.filter fun b => decide (b ≠ a)) P H ∧ Rel (δ.set i .un) σ O P H := by
  obtain ⟨a, vs, h1, h2, h3, h4, h5⟩ := R.own i m xs e
  have hi : i < δ.length := (List.getElem?_eq_some_iff.mp e).1
  have no : ∀ (j : Nat) (y : Sl), (δ.set i .un)[j]? = some y → y ≠ .un → j ≠ i ∧ δ[j]? = some y := fun j y ej hy => by
    by_cases hj : j = i
    · subst hj; rw [List.getElem?_set_self hi] at ej; cases ej; exact (hy rfl).elim
    · rw [List.getElem?_set_ne (Ne.symm hj)] at ej; exact ⟨hj, ej⟩
  have full : Rel (δ.set i .un) σ O P H := by
    refine ⟨by rw [List.length_set]; exact R.len, fun j y ej => ?_, fun j n ys ej => ?_, fun j k n n' ys zs b ej ek sj sk => ?_, R.trk, R.dis⟩
    · exact R.dat j y (no j _ ej (by intro z; cases z)).2
    · exact R.own j n ys (no j _ ej (by intro z; cases z)).2
    · exact R.inj j k n n' ys zs b (no j _ ej (by intro z; cases z)).2 (no k _ ek (by intro z; cases z)).2 sj sk
  refine ⟨a, vs, h1, h3, h4, h5, ⟨full.len, fun j y ej => ?_, fun j n ys ej => ?_, full.inj, fun b mb => ?_, fun b mb => full.dis b (List.mem_filter.mp mb).1⟩, full⟩
  · obtain ⟨v, k1, k2⟩ := full.dat j y ej
    refine ⟨v, k1, dp_le (fun b o h => ?_) _ _ k2⟩
    obtain ⟨n, h⟩ := frz_some.mp h
    refine frz_some.mpr ⟨fun z => n ?_, h⟩
    rcases List.mem_append.mp z with z | z
    · exact List.mem_append_left _ (List.mem_filter.mp z).1
    · exact List.mem_append_right _ z
  · obtain ⟨b, us, k1, k2, k3, k4, k5⟩ := full.own j n ys ej
    obtain ⟨hj, ej'⟩ := no j _ ej (by intro z; cases z)
    have nb : b ≠ a := fun z => hj (R.inj j i n m ys xs b ej' e k1 (by rw [z]; exact h1))
    refine ⟨b, us, k1, k2, List.mem_filter.mpr ⟨k3, decide_eq_true nb⟩, k4, dpa_le (fun c o h => ?_) _ _ k5⟩
    obtain ⟨n, h⟩ := frz_some.mp h
    refine frz_some.mpr ⟨fun z => n ?_, h⟩
    rcases List.mem_append.mp z with z | z
    · exact List.mem_append_left _ (List.mem_filter.mp z).1
    · exact List.mem_append_right _ z
  · rcases List.mem_append.mp mb with z | z
    · exact full.trk b (List.mem_append_left _ (List.mem_filter.mp z).1)
    · exact full.trk b (List.mem_append_right _ z)
end
section
variable {X : Cx} {E : XS} {e : Expr} {te : TD} {pos px py pt : Pos} {x y : Str} {kt : Nat}
/-- (x, y): both names give their lists away -/
def dPair (i j : Nat) : TD := fun δ _ Q => ∃ xs ys, i ≠ j ∧ gs δ i = .o none xs ∧ gs δ j = .o none ys ∧ Q (.p xs ys) (ss (ss δ i .un) j .un)
theorem ev_pair (i j : Nat) (δ : DSt) (R : RX) (Q) : dPair i j δ R Q = ∃ xs ys, i ≠ j ∧ gs δ i = .o none xs ∧ gs δ j = .o none ys ∧ Q (.p xs ys) (ss (ss δ i .un) j .un) := rfl
theorem de_pair (i j : Nat) (hi : X.N[i]? = some x := by rfl) (hj : X.N[j]? = some y := by rfl) (vx : Vis X.env.scope x := by first | exact Or.inl rfl | exact Or.inr (Or.inl rfl) | exact Or.inr (Or.inr rfl)) (vy : Vis X.env.scope y := by first | exact Or.inl rfl | exact Or.inr (Or.inl rfl) | exact Or.inr (Or.inr rfl))
    (d1 : (x == ("__debug__" : Str)) = false := by decide) (d2 : (y == ("__debug__" : Str)) = false := by decide) (c1 : (x == ("__classdict__" : Str)) = false := by decide) (c2 : (y == ("__classdict__" : Str)) = false := by decide)
    (s1 : starEach (.Name x px :: [.Name y py]) X.env = (false, eval (.Name x px) X.env) :: starEach [.Name y py] X.env := by rfl) (s2 : starEach (.Name y py :: []) X.env = (false, eval (.Name y py) X.env) :: starEach [] X.env := by rfl) :
    DE X E (.Tuple [.Name x px, .Name y py] kt pos) (dPair i j) := by
  refine ⟨_, pe_tup (pa_cons (pe_var hi vx d1 c1) (pa_cons (pe_var hj vy d2 c2) pa_nil s2) s1), fun δ σ O P H R Q' Q I w h k => ?_⟩
  obtain ⟨xs, ys, ne, gi, gj, h⟩ := h
  obtain ⟨a, vs, a1, a2, a3, a4, a5, a6⟩ := I.give (gs_o gi)
  have gj' : (δ.set i .un)[j]? = some (.o none ys) := by rw [List.getElem?_set_ne ne]; exact gs_o gj
  obtain ⟨b, ws, b1, b2, b3, b4, b5, b6⟩ := a5.give gj'
  obtain ⟨b', ws', b1', b2', b3', b4', b5', b6'⟩ := a6.give gj'
  rw [b1] at b1'; cases b1'
  rw [b3] at b3'; cases b3'
  have ab : a ≠ b := fun z => by
    have := (List.mem_filter.mp b2).2
    rw [z] at this
    simp at this
  refine ⟨_, a1, _, b1, ?_⟩
  show [V.ref a, V.ref b].length ≤ _ ∧ _
  refine ⟨by show 2 ≤ _; decide, fun t nt => ?_⟩
  rw [ss_eq, ss_eq] at h
  have nO : ∀ c, c ∈ (O ++ P) → c ≠ t := fun c m z => I.trk c m (by rw [z]; exact nt)
  generalize hO2 : ((O.filter fun c => decide (c ≠ a)).filter fun c => decide (c ≠ b)) = O2 at b5
  have mO2 : ∀ c, c ∈ O2 ↔ c ∈ O ∧ c ≠ a ∧ c ≠ b := fun c => by
    rw [← hO2, List.mem_filter, List.mem_filter]
    simp only [decide_eq_true_eq]
    exact ⟨fun ⟨⟨p, q⟩, r⟩ => ⟨p, q, r⟩, fun ⟨p, q, r⟩ => ⟨⟨p, q⟩, r⟩⟩
  have mO : ∀ c, c ∈ a :: b :: O2 ↔ c ∈ O := fun c => by
    rw [List.mem_cons, List.mem_cons, mO2]
    constructor
    · rintro (z | z | z)
      · rw [z]; exact a2
      · rw [z]; exact b2'
      · exact z.1
    · intro z
      by_cases e1 : c = a
      · exact .inl e1
      · by_cases e2 : c = b
        · exact .inr (.inl e2)
        · exact .inr (.inr ⟨z, e1, e2⟩)
  have Rf : Rel ((δ.set i .un).set j .un) σ (a :: b :: O2) P H := b5.mid b6' (fun c m => List.mem_cons_of_mem _ (List.mem_cons_of_mem _ m)) fun c m => (mO c).mp m
  have hz : frz ((a :: b :: O2) ++ P) H = frz (O ++ P) H := frz_congr fun c => by rw [List.mem_append, List.mem_append, mO c]
  have le : Le (frz (O ++ P) H) (frz ((a :: b :: O2) ++ P) (upd H t (.tup [.ref a, .ref b]))) := by
    rw [← hz]
    intro c o h
    obtain ⟨n, h⟩ := frz_some.mp h
    exact frz_some.mpr ⟨n, by rw [upd_ne (ne_of_none h nt)]; exact h⟩
  refine k (.p xs ys) (.ref t) _ (a :: b :: O2) _ ⟨t, a, b, vs, ws, O2, rfl, rfl, ab, fun z => ((mO2 a).mp z).2.1 rfl, fun z => ((mO2 b).mp z).2.2 rfl, I.dis a a2, I.dis b b2', b5.newd nt, Rf.newd nt, ?_, ?_, dpa_le le _ _ a4, dpa_le le _ _ b4', .inl (frz_some.mpr ⟨?_, upd_same⟩)⟩ ?_ h
  · rw [upd_ne (nO a (List.mem_append_left _ a2))]; exact a3
  · rw [upd_ne (nO b (List.mem_append_left _ b2'))]; exact b3
  · intro z
    rcases List.mem_append.mp z with z | z
    · exact nO t (List.mem_append_left _ ((mO t).mp z)) rfl
    · exact nO t (List.mem_append_right _ z) rfl
  · refine ⟨fun c o h n => ⟨by rw [upd_ne (ne_of_none h nt)]; exact h, fun z => n ((mO c).mp z)⟩, fun c h => ?_⟩
    by_cases z : c = t
    · rw [z, upd_same]; exact fun q => by cases q
    · rw [upd_ne z]; exact h
/-- x, y = e, e's result two new lists -/
def sAsgP (i j : Nat) (te : TD) : TSd := fun D δ => te δ D.ex fun r δ1 => ∃ xs ys, r = .p xs ys ∧ i ≠ j ∧ i < δ1.length ∧ j < δ1.length ∧ D.nx (ss (ss δ1 i (.o none xs)) j (.o none ys))
def kAsgP (i j : Nat) (D : DEnds) : Rs → DSt → Prop := fun r δ1 => ∃ xs ys, r = .p xs ys ∧ i ≠ j ∧ i < δ1.length ∧ j < δ1.length ∧ D.nx (ss (ss δ1 i (.o none xs)) j (.o none ys))
theorem ev_sasgp (i j : Nat) (te : TD) (D : DEnds) (δ : DSt) : sAsgP i j te D δ = te δ D.ex (kAsgP i j D) := rfl
theorem ev_kasgp (i j : Nat) (D : DEnds) (xs ys) (δ : DSt) : kAsgP i j D (.p xs ys) δ = (i ≠ j ∧ i < δ.length ∧ j < δ.length ∧ D.nx (ss (ss δ i (.o none xs)) j (.o none ys))) := by
  unfold kAsgP
  exact propext ⟨fun ⟨_, _, e, h⟩ => by cases e; exact h, fun h => ⟨_, _, rfl, h⟩⟩
theorem ds_asgP {i j : Nat} (hc : X.calm = true) (hN : X.N.Nodup) (hi : X.N[i]? = some x) (hj : X.N[j]? = some y) (lx : Loc X.env.scope x) (ly : Loc X.env.scope y) (he : DE X E e te)
    (fx : X.fn x = true ∨ X.env.scope.names.lookup x = some .local := by first | exact .inl rfl | exact .inr rfl) (fy : X.fn y = true ∨ X.env.scope.names.lookup y = some .local := by first | exact .inl rfl | exact .inr rfl)
    (m1 : (assignEach (.Name x px :: [.Name y py]) X.env).map (·.2) = assign (.Name x px) X.env :: (assignEach [.Name y py] X.env).map (·.2) := by rfl) (m2 : (assignEach (.Name y py :: []) X.env).map (·.2) = assign (.Name y py) X.env :: (assignEach [] X.env).map (·.2) := by rfl)
    (hn : (assignEach [.Name x px, .Name y py] X.env).length = 2 := by rfl) (hst : (assignEach [.Name x px, .Name y py] X.env).findIdx? (·.1) = none := by rfl)
    (hs : swapsWithSole [.Tuple [.Name x px, .Name y py] kt pt] e pos.line X.env = pure false := by rfl) (hw : swappedStores [.Tuple [.Name x px, .Name y py] kt pt] e X.env = pure none := by rfl) (h1 : (assignEach [.Tuple [.Name x px, .Name y py] kt pt] X.env).map (·.2) = [assign (.Tuple [.Name x px, .Name y py] kt pt) X.env] := by rfl) :
    DS X E (.Assign [.Tuple [.Name x px, .Name y py] kt pt] e pos) (sAsgP i j te) := by
  obtain ⟨a, p, q⟩ := he.ex
  refine ⟨_, ps_asg p (pg_tup hc (pgs_cons (pg_name hN hi lx fx) (pgs_cons (pg_name hN hj ly fy) pgs_nil m2) m1) hn hst) hs hw h1, fun δ σ O P H DD D I L h => ?_⟩
  refine q δ σ O P H _ _ _ I L.ex h fun r v δ1 O1 H1 g s1 h1 => ?_
  obtain ⟨xs, ys, er, ne, li, lj, h1⟩ := h1
  subst er
  obtain ⟨t, b, c, vs, ws, O2, rfl, rfl, bc, n1, n2, m1, m2, R1, R, hp, hq, d1, d2, dt⟩ := g
  refine ⟨_, _, rfl, .inl (rd_le frz_le dt), rfl, _, _, rfl, _, _, rfl, rfl, ?_⟩
  have mb : ∀ a, a ∈ b :: c :: O2 ↔ a ∈ c :: b :: O2 := fun a => by simp only [List.mem_cons]; exact or_left_comm
  have Rb : Rel δ1 σ (b :: O2) P H1 := R1.mid R (fun a m => List.mem_cons_of_mem _ m) fun a m => by
    rcases List.mem_cons.mp m with m | m
    · rw [m]; exact List.mem_cons_self
    · exact List.mem_cons_of_mem _ (List.mem_cons_of_mem _ m)
  have Rc : Rel δ1 σ (c :: O2) P H1 := R1.mid R (fun a m => List.mem_cons_of_mem _ m) fun a m => by
    rcases List.mem_cons.mp m with m | m
    · rw [m]; exact List.mem_cons_of_mem _ List.mem_cons_self
    · exact List.mem_cons_of_mem _ (List.mem_cons_of_mem _ m)
  have le : Le (frz ((b :: c :: O2) ++ P) H1) (frz ((b :: O2) ++ P) H1) := fun a o h => by
    obtain ⟨n, h⟩ := frz_some.mp h
    refine frz_some.mpr ⟨fun m => n ?_, h⟩
    simp only [List.cons_append, List.mem_cons] at m ⊢
    rcases m with m | m
    · exact .inl m
    · exact .inr (.inr m)
  -- first x, then y
  have S1 := Rel.set_f (i := i) n1 R1 Rb hp (dpa_le le _ _ d1) li
  have S2 := Rel.set_f (i := i) (by simp only [List.mem_cons, not_or]; exact ⟨bc, n1⟩) Rc R hp d1 li
  have S2' : Rel (δ1.set i (.o none xs)) (σ.set i (some (.ref b))) (c :: b :: O2) P H1 := S1.mid S2 (fun a m => List.mem_cons_of_mem _ m) fun a m => (mb a).mpr m
  have d2' : DqAll (frz ((c :: b :: O2) ++ P) H1) ws ys := by
    rw [frz_congr (Z' := (b :: c :: O2) ++ P) fun a => by rw [List.mem_append, List.mem_append, mb a]]
    exact d2
  have S3 := Rel.set_f (i := j) (by simp only [List.mem_cons, not_or]; exact ⟨fun z => bc z.symm, n2⟩) S1 S2' hq d2' (by rw [List.length_set]; exact lj)
  rw [ss_eq, ss_eq] at h1
  refine L.nx _ _ (c :: b :: O2) H1 S3 ⟨fun a o h n => ⟨(s1.keep a o h n).1, fun z => (s1.keep a o h n).2 ((mb a).mpr z)⟩, s1.there⟩ h1
end
end DL

/-! for i, x in enumerate(a list or a tuple) -/
namespace LZ
open PySem PySem.Spec PyProof.Rows L2 RZ
section
variable {P : Program} {w : World} {A : Around} {E : Value → Shared → Prop} {s : Shared}
/-- enumerate of what one can walk -/
theorem en_new {v : Value} {o : Obj} {HH : Heap → Prop} (B : Begins v o HH) :
    Meets (Builtin.«enumerate.__new__» ⟨[.type "enumerate", v], []⟩) (fun _ R z => HH z.heap ∧
      R (.ok (.ret (.ref (z.heap.push o).objs.size))) { z with heap := (z.heap.push o).push { cls := .type "enumerate", data := .fields #[.none, .bool false, .ref z.heap.objs.size, rawInt 0, .none, .none] } }) := by
  refine .of_wp fun prog w A R z hz => ?_
  obtain ⟨hp, g, d, tk, os⟩ := z
  obtain ⟨ok, goal⟩ := hz
  have sub := sub_enumerate
  have walk : ∀ {A' : Around} {E : Value → Shared → Prop} {Q : Value → Shared → Prop}, Q (.ref hp.objs.size) ⟨hp.push o, g, d, tk, os⟩ → wpAny (model prog w) A' (pyIter v) Q E ⟨hp, g, d, tk, os⟩ := fun k => B.iter prog w _ _ ⟨hp, g, d, tk, os⟩ _ ok k
  wp_walk using walk
  refine wpAny_stack_any fun stack => wpAny_pure ?_
  split
  case h_1 => rename_i c _ _ _ _ _; cases (c == Value.type "enumerate") <;> (wp_walk using walk; exact ⟨_, rfl, goal⟩)
  all_goals (wp_walk using walk; exact ⟨_, rfl, goal⟩)
theorem en_call {v : Value} {o : Obj} {HH : Heap → Prop} {Q : Value → Shared → Prop} (B : Begins v o HH) (ok : HH s.heap)
    (goal : ∀ G, IsEnum G (s.heap.objs.size + 1) s.heap.objs.size 0 .none → G.get? s.heap.objs.size = some o → (∀ b u, s.heap.get? b = some u → G.get? b = some u) → Q (.ref (s.heap.objs.size + 1)) { s with heap := G }) :
    wpAny (model P w) A (call (.type "enumerate") [v]) Q E s := by
  refine callType_new F.called_enumerate (by decide) (F.typeCall_enumerate_1 _) (F.newCall_enumerate_1 _) (fun obj => F.args_object_init_2 obj _) F.entry_enumerate_new (en_new B) ⟨ok, ?_⟩
  have size1 : (s.heap.push o).objs.size = s.heap.objs.size + 1 := Heap.size_push ..
  generalize hG : (s.heap.push o).push { cls := .type "enumerate", data := .fields #[.none, .bool false, .ref s.heap.objs.size, rawInt 0, .none, .none] } = G
  have at_ : IsEnum G (s.heap.objs.size + 1) s.heap.objs.size 0 .none := by
    rw [← hG, ← size1]
    exact Heap.get?_push_size (s.heap.push o) rfl
  show _ ∧ _
  rw [size1]
  refine ⟨⟨_, at_, rfl⟩, goal G at_ ?_ fun b u e => ?_⟩
  · rw [← hG]; exact Heap.get?_push_of_some _ (Heap.get?_push_size _ B.free)
  · rw [← hG]; exact Heap.get?_push_of_some _ (Heap.get?_push_of_some _ e)
end
/-- each item with its place, in a new pair -/
def ItX (t : Bool) (K : PySem.W.Frag) (a : Addr) : It :=
  ⟨fun i H => ∃ (xs : List V) (x : V), SqB t K H a xs ∧ xs[i]? = some x, fun i H v H' => ∃ T x, v = .ref T ∧ H T = none ∧ H' = upd H T (.tup [.int (i : Nat), x]) ∧ ∀ xs, SqB t K H a xs → xs[i]? = some x,
    fun i H => ∃ xs : List V, SqB t K H a xs ∧ i = xs.length⟩
theorem turn_en {P : Program} {w : World} {K : PySem.W.Frag} {elts : List Expr} {kk : Nat} {tpos : Pos} {t : Bool} {a e it : Addr} (n1 : a ≠ it) (n2 : e ≠ it) (n3 : e ≠ a) :
    Turn P w K (.Tuple elts kk tpos) (ItX t K a) [e, it] e (fun i h => (∃ old, IsEnum h e it ((i : Nat) : Int) old) ∧ IterB t h it a i) where
  mem := by simp
  obj := fun i h st b hb => by
    obtain ⟨⟨old, he⟩, hi⟩ := st
    obtain ⟨o, f, e1, d1⟩ := hi.obj
    rcases (show b = e ∨ b = it by simpa using hb) with q | q
    · rw [q]; exact ⟨_, he, fun v k => nomatch k⟩
    · rw [q]; exact ⟨o, e1, fun v k => by rw [d1] at k; cases k⟩
  keep := fun i h h' st k => ⟨st.1.imp fun _ he => k e (by simp) _ he, st.2.at fun o q => k it (by simp) o q⟩
  item := by
    intro X hP hw hK hc i pins s σ H E I hf st hg
    subst hP hw hK
    obtain ⟨⟨old, he⟩, hi⟩ := st
    obtain ⟨xs, x, hq, hx⟩ := hg
    obtain ⟨us, _, _, rv, _, _, _, _, dr⟩ := srcB I hq
    obtain ⟨St, D, toSt, ofSt⟩ := dr it n1
    have lt : i < us.length := by rw [← rv.length]; exact (List.getElem?_eq_some_iff.mp hx).1
    have el : e < s.heap.objs.size := Heap.lt_size he
    refine wpAny_pyNext_enum_itemD (D _ (I.ok.hd hc)) he (toSt i hi) lt n2 (by simp [n2, n3]) fun u h' tk pu out st' tup grown keep => ?_
    obtain ⟨u', ku, ru⟩ := rv.get hx
    rw [ku] at pu; cases pu
    refine ⟨_, rfl, wpAny_letOwnedTupleGo_enum (s := { s with heap := h', toks := tk + 1 }) out fun h'' he' sb => ?_⟩
    have tup2 : h''.get? s.heap.objs.size = some { cls := .type "tuple", data := .seq #[.int i tk, u] } := (sb.2 _ (Nat.ne_of_gt el)).trans tup
    have new : ObjOk X.prog X.w (upd H s.heap.objs.size (.tup [.int (i : Nat), x])) h'' s.heap.objs.size (.tup [.int (i : Nat), x]) :=
      ⟨by show 2 ≤ sizeLine; decide, [.int i tk, u], .cons ⟨_, rfl⟩ (.cons ru .nil), ⟨_, tup2, rfl, _, rfl⟩⟩
    have I1 : Inv X pins σ (upd H s.heap.objs.size (.tup [.int (i : Nat), x])) { s with heap := h'', toks := tk + 1 } :=
      I.turnedNew (t' := tk + 1) (ch := [e, it]) (fun b ob hb q => (sb.2 b fun z => hb (by simp [z])).trans (keep b ob (fun z => hb (by simp [z])) (fun z => hb (by simp [z])) q)) hf (Nat.le_refl _) new
    obtain ⟨o1, _, e1, _⟩ := hi.obj
    refine ⟨.ref s.heap.objs.size, _, I1, rfl, ⟨_, x, rfl, I.hok.fresh (Nat.le_refl _), rfl, fun ys hy => by rw [sqb_inj I hy hq]; exact hx⟩, ⟨⟨u, ?_⟩, (ofSt _ _ st').at fun o q => (sb.2 _ (Ne.symm n2)).trans q⟩, fun b hb => ?_⟩
    · rw [show ((i + 1 : Nat) : Int) = (i : Int) + 1 by omega]
      exact he'
    · have lb : b < s.heap.objs.size := by
        rcases (show b = e ∨ b = it by simpa using hb) with q | q
        · rw [q]; exact el
        · rw [q]; exact Heap.lt_size e1
      rw [upd_ne (Nat.ne_of_lt lb)]
      exact (hf b hb).1
  done := by
    intro X hP hw hK hc i pins s σ H E I hf st hg
    subst hP hw hK
    obtain ⟨⟨old, he⟩, hi⟩ := st
    obtain ⟨xs, hq, hx⟩ := hg
    obtain ⟨us, _, _, rv, _, _, _, _, dr⟩ := srcB I hq
    obtain ⟨St, D, toSt, _⟩ := dr it n1
    rw [rv.length] at hx
    subst hx
    obtain ⟨f0, f1, f2, f3, f4, f5⟩ := hf it (by simp)
    exact wpAny_pyNext_enum_endD (D _ (I.ok.hd hc)) he (toSt _ hi) fun h' eb => ⟨rfl, I.turned (t' := s.toks) (fun b o hb q => eb b o hb q) f0 f1 f3 f4 f5⟩
  self := fun A i s Q E st h => st.1.elim fun _ he => wpAny_pyIter_enum he h
def iEnX (K : PySem.W.Frag) (ta : TA) : TI := fun σ H R => ta σ H fun vs H1 => ∃ t a xs, vs = [.ref a] ∧ SqB t K H1 a xs ∧ R (ItX t K a) H1
theorem pi_enX {X : Cx} {e : Expr} {ta : TA} {p pos tpos : Pos} {elts : List Expr} {kk : Nat} (hg : Gl X "enumerate") (hm : X.mg "enumerate" = none) (ha : PA X [e] ta) (hs : starEach [e] X.env = [(false, eval e X.env)] := by rfl) :
    PI X (.Tuple elts kk tpos) (.Call (.Name "enumerate" p) [e] [] pos) (iEnX X.K ta) := by
  constructor
  intro pins s σ H R I h
  refine Call_ (ld_blt I hg hm boot_enumerate (PyProof.Rows.callWith_type1 (thn (ha.run pos pins s σ H _ I h) fun us s1 ⟨vs, H1, I1, r1, q1⟩ => ?_) hs rfl))
  obtain ⟨t, a, xs, rfl, hx, q⟩ := q1
  rw [Vals.ref1 r1]
  obtain ⟨u1, o1, HH1, v1, la, B1, h1, m1, _⟩ := srcB I1 hx
  refine en_call B1 h1 fun G he hit keep => wpAny_pyIter_enum he ?_
  have I2 : Inv X pins σ H1 { s1 with heap := G } := I1.kept (t' := s1.toks) keep
  refine ⟨s1.heap.objs.size + 1, [s1.heap.objs.size + 1, s1.heap.objs.size], _, _, H1, rfl, I2, turn_en (Nat.ne_of_lt la) (Nat.succ_ne_self _) (Nat.ne_of_gt (Nat.lt_succ_of_lt la)), ⟨⟨.none, he⟩, m1 G _ hit⟩, fun b hb => ?_, q⟩
  have le : s1.heap.objs.size ≤ b := by
    rcases (show b = s1.heap.objs.size + 1 ∨ b = s1.heap.objs.size by simpa using hb) with z | z
    · rw [z]; exact Nat.le_succ _
    · rw [z]; exact Nat.le_refl _
  exact I1.fpOk le (I1.hok.fresh le)
end LZ
namespace DL
open PySem L2 RZ
theorem itd_enX {K : PySem.W.Frag} {t : Bool} {O P : List Addr} {H : Hp} {a : Addr} {vs : List V} {xs : List PyData} (h : RdB t (frz (O ++ P) H) a vs) (d : DqAll (frz (O ++ P) H) vs xs) : ItD (LZ.ItX t K a) (enumD 0 xs) O P H := fun O2 H2 s tr i => by
  have h2 : RdB t H2 a vs := rdb_le frz_le (rdb_le s h)
  refine ⟨fun z e => ?_, fun e => ⟨vs, rdb_sq h2, by rw [enumD_len] at e; rw [dpa_len d]; exact e.symm⟩⟩
  rw [enumD_get] at e
  obtain ⟨x, ex, rfl⟩ := Option.map_eq_some_iff.mp e
  obtain ⟨v, e1, e2⟩ := dpa_get (dpa_le s _ _ d) ex
  refine ⟨⟨vs, v, rdb_sq h2, e1⟩, fun u H3 yl => ?_⟩
  obtain ⟨T, x', rfl, nT, rfl, z1⟩ := yl
  have z1' := z1 vs (rdb_sq h2)
  rw [e1] at z1'; cases z1'
  rw [show ((0 + i : Nat) : Int) = ((i : Nat) : Int) by rw [Nat.zero_add]]
  exact ⟨dq_pair nT (fun m => tr T m nT) (.int _) e2, .inr ⟨T, _, nT, rfl⟩⟩
section
variable {X : Cx} {E : XS} {e : Expr} {te : TD} {elts : List Expr} {kk : Nat} {p pos tpos : Pos}
/-- enumerate(a list or a tuple) -/
def enumB (x : PyData) (Q : List PyData → Prop) : Prop := match x with
  | .list xs => Q (enumD 0 xs)
  | .tuple xs => Q (enumD 0 xs)
  | _ => False
def iEnumB (t : TD) : TDs := fun δ R Q => t δ R fun r δ1 => enumB r.val fun xs => Q xs δ1
def kEnB (Q : List PyData → DSt → Prop) : Rs → DSt → Prop := fun r δ1 => enumB r.val fun xs => Q xs δ1
theorem ev_enb (t : TD) (δ : DSt) (R : RX) (Q) : iEnumB t δ R Q = t δ R (kEnB Q) := rfl
theorem ev_kenb (Q r) (δ : DSt) : kEnB Q r δ = enumB r.val fun xs => Q xs δ := rfl
theorem ev_enbL (xs Q) : enumB (.list xs) Q = Q (enumD 0 xs) := rfl
theorem ev_enbT (xs Q) : enumB (.tuple xs) Q = Q (enumD 0 xs) := rfl
theorem di_enumB (hg : Gl X "enumerate") (hm : X.mg "enumerate" = none) (ha : DE X E e te) (hs : starEach [e] X.env = (false, eval e X.env) :: starEach [] X.env := by rfl) (hs' : starEach [e] X.env = [(false, eval e X.env)] := by rfl) :
    DI X E (.Tuple elts kk tpos) (.Call (.Name "enumerate" p) [e] [] pos) (iEnumB te) := by
  obtain ⟨t, pt, q⟩ := ha.ex
  refine ⟨_, LZ.pi_enX hg hm (pa_cons pt pa_nil hs) hs', fun δ σ O P H R Q' Q I w h k => ?_⟩
  refine q δ σ O P H R _ _ I w h fun r v δ1 O1 H1 g s1 h1 => ?_
  obtain ⟨O2, R2, d, s2⟩ := g.share s1
  unfold enumB at h1
  split at h1
  · rename_i xs e
    rw [e] at d
    cases d with
    | lst a1 a2 => exact ⟨false, _, _, rfl, .inl (rd_le frz_le a1), k _ _ δ1 O2 H1 R2 s2 (itd_enX (t := false) a1 a2) h1⟩
  · rename_i xs e
    rw [e] at d
    cases d with
    | tup a1 a2 => exact ⟨true, _, _, rfl, .inl (rd_le frz_le a1), k _ _ δ1 O2 H1 R2 s2 (itd_enX (t := true) a1 a2) h1⟩
  · exact h1.elim
end
end DL

namespace LW
open PySem L2 DL
local macro_rules | `(tactic| walk_at "ee") => `(tactic| simp only [↓asB_b, ↓with1_s, ↓with2_s, ↓asI_s, ↓withL_s, ↓withA_s, ↓putI_s, ↓subI_s, ↓as2I_s, ↓appV_s, ↓isO_o, ↓ev_var, ↓ev_vd, ↓ev_vo, ↓ev_c, ↓ev_avar, ↓ev_ad, ↓ev_ao, ↓ev_kz, ↓ev_of, ↓ev_kof, ↓ev_op, ↓ev_op1, ↓ev_op2, ↓ev_op3, ↓ev_un, ↓ev_un1, ↓ev_un2, ↓ev_test, ↓ev_ktest, ↓ev_and, ↓ev_kandT, ↓ev_kandF, ↓ev_or, ↓ev_korT, ↓ev_korF, ↓ev_not, ↓ev_knot, ↓ev_andV, ↓ev_kandV, ↓ev_kandVT, ↓ev_kandVF, ↓ev_orV, ↓ev_korV, ↓ev_korVT, ↓ev_korVF, ↓ev_notV, ↓ev_knotV, ↓ev_knotV2, ↓ev_ifE, ↓ev_kifET, ↓ev_kifEF, ↓ev_chain, ↓ev_ch1, ↓ev_ch2, ↓ev_ch2b, ↓ev_ch3, ↓ev_ch4T, ↓ev_ch4F, ↓ev_ch5, ↓ev_ch6, ↓ev_nil, ↓ev_cons, ↓ev_kcons, ↓ev_kcons2, ↓ev_lst, ↓ev_klst, ↓ev_tup, ↓ev_ktup, ↓ev_rnil, ↓ev_rcons, ↓ev_krcons, ↓ev_krcons2, ↓ev_anil, ↓ev_acons, ↓ev_kacons, ↓ev_kacons2, ↓ev_pnone, ↓ev_psome, ↓ev_kp, ↓ev_kp2, ↓ev_sl, ↓ev_sl1, ↓ev_sl2, ↓ev_sl3, ↓ev_sl4, ↓ev_slL, ↓ev_slT, ↓ev_cb, ↓ev_kcb, ↓ev_kcb2, ↓ev_isi, ↓ev_kisi, ↓ev_kisi2, ↓ev_call, ↓ev_kcall, ↓ev_callK, ↓ev_kcallK, ↓ev_kq, ↓ev_comp, ↓ev_kcomp, ↓ev_kcompE, ↓ev_compN, ↓ev_compC, ↓ev_kc1, ↓ev_kc2T, ↓ev_kc2F, ↓ev_kc3, ↓ev_yes, ↓ev_gn, ↓ev_gnil, ↓ev_gcons, ↓ev_kg, ↓ev_gtup, ↓ev_seqT, ↓ev_seqL, ↓ev_sub, ↓ev_ksub, ↓ev_iseq, ↓ev_kiseq, ↓ev_seqVL, ↓ev_seqVT, ↓ev_kqd, ↓ev_rg1, ↓ev_krg1, ↓ev_krg1b, ↓ev_rg2, ↓ev_krg2, ↓ev_krg2b, ↓ev_krg2c, ↓ev_en, ↓ev_ken, ↓ev_enL, ↓ev_zp, ↓ev_kzp, ↓ev_kzp2, ↓ev_zpL, ↓ev_zpT, ↓ev_snext, ↓ev_sseq, ↓ev_knx, ↓nx_set, ↓rt_set, ↓bk_set, ↓ct_set, ↓ex_set, ↓nx_for, ↓rt_for, ↓bk_for, ↓ct_for, ↓ex_for, ↓nx_end, ↓rt_end, ↓ex_end, ↓ev_sbrk, ↓ev_scont, ↓ev_sdrop, ↓ev_kdrop, ↓ev_sret, ↓ev_sretN, ↓ev_sif, ↓ev_kifT, ↓ev_kifF, ↓ev_sset, ↓ev_kset, ↓ev_sasg, ↓ev_kasg, ↓ev_saug, ↓ev_kaug, ↓ev_kaug2, ↓ev_kaug3, ↓ev_sapp, ↓ev_kapp, ↓ev_spar, ↓ev_kpar, ↓ev_sfor, ↓ev_kfori, ↓ev_forN, ↓ev_forC, ↓ev_kfor, ↓o_addI, ↓o_addL, ↓o_addT, ↓o_addS, ↓o_sub, ↓o_iadd, ↓o_mod, ↓o_fdiv, ↓o_pow, ↓o_mulI, ↓o_mulL, ↓o_mulT, ↓o_lt, ↓o_le, ↓o_gt, ↓o_ge, ↓o_isN, ↓o_notN, ↓n_none, ↓n_int, ↓n_bool, ↓n_str, ↓n_list, ↓n_tup, ↓o_neg, ↓o_rev, ↓ixV_s, ↓o_ixL, ↓o_ixT, ↓c_abs, ↓c_intI, ↓c_intB, ↓c_lenL, ↓c_lenT, ↓c_max2, ↓c_min2, ↓c_listL, ↓c_listT, ↓c_tupL, ↓c_tupT, ↓c_divmod, ↓c_str, ↓c_sum1, ↓c_max1, ↓c_min1, ↓c_all1, ↓c_any1, ↓g_0, ↓g_s, ↓s_0, ↓s_s, ↓v_un, ↓v_d, ↓v_o, ↓res_x, ↓res_v, ↓val_d, ↓val_f, ↓sl_d, ↓sl_f, ↓ag_d, ↓ag_o, ↓cons?_s, ↓ra_nil, ↓cons2?_s, ↓ra_cons, ↓ag_nil, ↓ag_x, ↓agV_s, ↓ag_v, ↓nr_nil, ↓nr_x, ↓nrV_d, ↓nrV_o, ↓nr_v, ↓vx_nil, ↓vx_x, ↓vx_v, ↓putV_o, ↓pb_0, ↓pb_1, ↓pl_nil, ↓pl_0, ↓pl_1, ↓pl_2, ↓pl_3, ↓rd_0, ↓bx_nil, ↓bx_d, ↓bx_o, ↓rd_o, ↓kd_un, ↓kd_d, ↓sa_nil, ↓sa_cons, ↓wp_nil, ↓wp_cons, ↓rs_nil, ↓rs_cons, ↓ev_lc2, ↓ev_klc2, ↓ev_c2N, ↓ev_c2C, ↓ev_k21, ↓ev_k22T, ↓ev_k22F, ↓ev_k23, ↓ev_k24, ↓c_repr, ↓c_sort, ↓ev_callP, ↓ev_peek, ↓ev_peek2, ↓ev_scal, ↓ev_callF, ↓ev_knew, ↓ev_kdat, ↓c_listS, ↓c_tupS, ↓c_lenS, ↓o_well0, ↓o_well1, ↓seqT_g, ↓o_grp0, ↓o_grp1, ↓seqT_m, ↓o_mv0, ↓o_mv1, ↓o_st, Rs.val, Rs.sl, Ag.sl, Opd.res, Sl.val, Sl.keepD, isD_n, isD_b, isD_i, isD_s, isD_l, isD_t, eq_self, eqD_int, neD_int, eqD_ll, neD_ll, eqD_tt, neD_tt, eqD_bb, neD_bb, atI_0, atI_1, atI_2, atI_3, ixN_1_0, ixN_2_0, ixN_2_1, ixN_3_0, ixN_3_1, ixN_3_2, ixN_4_0, ixN_4_1, ixN_4_2, ixN_4_3, dStart, repUn, tYesD, List.map_cons, List.map_nil, List.cons_append, List.nil_append, List.length_cons, List.length_nil, true_and, and_true, ne_eq, not_false_eq_true, reduceCtorEq, Option.some.injEq, Option.map_none, Option.map_some, Nat.reduceAdd, Nat.reduceSub, Nat.reduceLT, Nat.reduceLeDiff, Nat.zero_lt_succ, Nat.le_refl, Bool.not_true, Bool.not_false, decide_true, decide_false, Int.reduceLE, Int.reduceLT, Int.reduceEq, Int.toNat_zero, Int.reduceToNat, Int.reducePow, Int.reduceNeg, Int.toNat_one, List.set_cons_zero, List.set_cons_succ, List.not_mem_nil, List.mem_cons, false_or, or_false, forall_eq, forall_eq_or_imp, if_true, if_false, ite_true, ite_false, Bool.false_eq_true, forall_const, implies_true, false_implies])
/-! ### the program's moves -/
theorem is_ix {x : PyData} {xs : List PyData} (h : SeqIs x xs) (i : Int) (k : Rs → Prop) : ixD x (.int i) k = ixV (atI xs i) k := by rcases h with rfl | rfl <;> rfl
theorem is_len {x : PyData} {xs : List PyData} (h : SeqIs x xs) (k : Rs → Prop) : lenK [x] k = k (.d (.int (xs.length : Int))) := by rcases h with rfl | rfl <;> rfl
theorem paired_len {α β : Type} {R : α → β → Prop} : ∀ {xs : List α} {ys : List β}, Paired R xs ys → xs.length = ys.length
  | _, _, .nil => rfl
  | _, _, .cons _ h => by simp only [List.length_cons]; rw [paired_len h]
def isMv (lim : Int) (gs : List (Int × Int)) (k l : Int) : Bool := decide (0 ≤ k ∧ k < gs.length) && decide (-1 ≤ l ∧ l < k) && decide (wtOf gs k - wtOf gs l ≤ lim)
def S_is_move : DSp := fun as R Q => ∃ (x : PyData) (lim : Int) (gs : List (Int × Int)) (k l : Int), as = [.d x, .d (.int k), .d (.int l)] ∧ WellIs x lim gs ∧ Q (.d (.bool (isMv lim gs k l))) []
/-- is_move -/
def w_is_move : TSd :=
  (sSeq (sIf (dOr (dNot (dTest (dChain leD ltD (aOf (dC (.int 0))) (aVar 1) (aOf (dCB lenK (aCons (aOf (dOp ixD (aVar 0) (aOf (dC (.int 1))))) aNil)))))) (dNot (dTest (dChain leD ltD (aOf (dUn negD (aOf (dC (.int 1))))) (aVar 2) (aVar 1))))) (sRet (dC (.bool false))) sNext)
  (sRet (dOp leD (aOf (dOp subD (aOf (dCallN 2 S_weight_of (aCons (aOf (dVar 0)) (aCons (aOf (dVar 1)) aNil)))) (aOf (dCallN 2 S_weight_of (aCons (aOf (dVar 0)) (aCons (aOf (dVar 2)) aNil)))))) (aOf (dOp ixD (aVar 0) (aOf (dC (.int 0))))))))
theorem b_is_move (as : List Ag) (m : Addr) (R : RXc) (Q : Rs → List (List PyData) → Prop) (hl : as.length = 3) (h : S_is_move as R Q) : w_is_move (dEnds as m Q noR) (dStart 3 as m) := by
  obtain ⟨x, lim, gs, k, l, rfl, hx, q⟩ := h
  have hx' := hx
  obtain ⟨b, bl, h1, h2, h3⟩ := hx'
  have bn := paired_len h3
  unfold isMv at q
  unfold w_is_move
  walk_at "ee"
  by_cases c1 : 0 ≤ k
  · rw [dT c1]
    walk_at "ee"
    rw [is_ix h1]
    walk_at "ee"
    rw [is_len h2, bn]
    walk_at "ee"
    by_cases c2 : k < gs.length
    · rw [dT c2]
      rw [dT (⟨c1, c2⟩ : 0 ≤ k ∧ k < gs.length)] at q
      walk_at "ee"
      by_cases c3 : -1 ≤ l
      · rw [dT c3]
        walk_at "ee"
        by_cases c4 : l < k
        · rw [dT c4]
          rw [dT (⟨c3, c4⟩ : -1 ≤ l ∧ l < k)] at q
          walk_at "ee"
          refine ⟨x, lim, gs, k, rfl, hx, by omega, c2, ?_⟩
          walk_at "ee"
          refine ⟨x, lim, gs, l, rfl, hx, c3, by omega, ?_⟩
          walk_at "ee"
          rw [is_ix h1]
          walk_at "ee"
          exact q
        · rw [dF c4]
          rw [dF (fun h => c4 h.2 : ¬ (-1 ≤ l ∧ l < k))] at q
          walk_at "ee"
          exact q
      · rw [dF c3]
        rw [dF (fun h => c3 h.1 : ¬ (-1 ≤ l ∧ l < k))] at q
        walk_at "ee"
        exact q
    · rw [dF c2]
      rw [dF (fun h => c2 h.2 : ¬ (0 ≤ k ∧ k < gs.length))] at q
      walk_at "ee"
      exact q
  · rw [dF c1]
    rw [dF (fun h => c1 h.1 : ¬ (0 ≤ k ∧ k < gs.length))] at q
    walk_at "ee"
    exact q
def isLegN (gs : List (Int × Int)) (st : List Int) (k l c : Int) : Bool := decide (stAt st k + c ≤ szOf gs k) && (decide (l = -1) || decide (c ≤ stAt st l))
theorem isLegN_one {gs : List (Int × Int)} {st : List Int} {k l : Int} (h : -1 ≤ l) : isLegN gs st k l 1 = isLegal gs st (k, l) := by
  unfold isLegN isLegal
  have a : decide (stAt st k + 1 ≤ szOf gs k) = decide (stAt st k < szOf gs k) := decide_eq_decide.mpr (by constructor <;> intro h <;> omega)
  have b : decide (l = -1) = decide (l < 0) := decide_eq_decide.mpr (by constructor <;> intro h <;> omega)
  have d : decide (1 ≤ stAt st l) = decide (0 < stAt st l) := decide_eq_decide.mpr (by constructor <;> intro h <;> omega)
  rw [a, b, d]
def S_people_are_there : DSp := fun as R Q => ∃ (x y : PyData) (lim : Int) (gs : List (Int × Int)) (st : List Int) (k l c : Int), as = [.d x, .d y, .d (.int k), .d (.int l), .d (.int c)] ∧ WellIs x lim gs ∧ SeqIs y (ilD st) ∧ st.length = gs.length ∧ 0 ≤ k ∧ k < gs.length ∧ -1 ≤ l ∧ l < gs.length ∧ Q (.d (.bool (isLegN gs st k l c))) []
/-- _people_are_there -/
def w_people_are_there : TSd :=
  (sSeq (sSet 5 (dOp ixD (aOf (dOp ixD (aOf (dOp ixD (aVar 0) (aOf (dC (.int 1))))) (aVar 2))) (aOf (dC (.int 1)))))
  (sRet (dAndV (dOp leD (aOf (dOp addD (aOf (dOp ixD (aVar 1) (aVar 2))) (aVar 4))) (aVar 5)) (dOrV (dOp eqD (aVar 3) (aOf (dUn negD (aOf (dC (.int 1)))))) (dOp geD (aOf (dOp ixD (aVar 1) (aVar 3))) (aVar 4))))))
theorem is_at {bl : List PyData} {gs : List (Int × Int)} (h : Paired GrpIs bl gs) (k : Int) (h0 : 0 ≤ k) (h1 : k < gs.length) : ∃ z, atI bl k = some z ∧ SeqIs z [.int (wtOf gs k), .int (szOf gs k)] := by
  obtain ⟨g, e, _, e1, e2⟩ := at_gs gs k h0 h1
  obtain ⟨z, z1, z2⟩ := paired_atI h (i := k) (g := g) (by rw [atI_in gs k h0 h1]; exact e)
  unfold GrpIs at z2
  rw [e1, e2] at z2
  exact ⟨z, z1, z2⟩
theorem b_people_are_there (as : List Ag) (m : Addr) (R : RXc) (Q : Rs → List (List PyData) → Prop) (hl : as.length = 5) (h : S_people_are_there as R Q) : w_people_are_there (dEnds as m Q noR) (dStart 6 as m) := by
  obtain ⟨x, y, lim, gs, st, k, l, c, rfl, ⟨b, bl, h1, h2, h3⟩, hy, hs, k0, k1, l0, l1, q⟩ := h
  obtain ⟨z, z1, z2⟩ := is_at h3 k k0 k1
  unfold w_people_are_there
  walk_at "ee"
  rw [is_ix h1]
  walk_at "ee"
  rw [is_ix h2, z1]
  walk_at "ee"
  rw [is_ix z2]
  walk_at "ee"
  rw [is_ix hy, at_st st k k0 (by omega)]
  walk_at "ee"
  unfold isLegN at q
  by_cases c1 : stAt st k + c ≤ szOf gs k
  · rw [dT c1]
    simp only [dT c1, Bool.true_and] at q
    walk_at "ee"
    by_cases c2 : l = -1
    · simp only [dT c2, Bool.true_or] at q
      rw [dT c2]
      walk_at "ee"
      exact q
    · simp only [dF c2, Bool.false_or] at q
      rw [dF c2]
      walk_at "ee"
      rw [is_ix hy, at_st st l (by omega) (by omega)]
      walk_at "ee"
      exact q
  · rw [dF c1]
    simp only [dF c1, Bool.false_and] at q
    walk_at "ee"
    exact q
theorem isMv_in {lim : Int} {gs : List (Int × Int)} {k l : Int} (h0 : 0 ≤ k) (h1 : k < gs.length) (h2 : -1 ≤ l) (h3 : l < k) : isMv lim gs k l = decide (wtOf gs k - lim ≤ wtOf gs l) := by
  unfold isMv
  rw [dT (⟨h0, h1⟩ : 0 ≤ k ∧ k < gs.length), dT (⟨h2, h3⟩ : -1 ≤ l ∧ l < k), Bool.true_and, Bool.true_and]
  exact decide_eq_decide.mpr ⟨fun h => by omega, fun h => by omega⟩
def S_all_moves : DSp := fun as R Q => ∃ (x : PyData) (lim : Int) (gs : List (Int × Int)), as = [.d x] ∧ WellIs x lim gs ∧ gs.length ≤ 14 ∧ Q (.f ((allMv lim gs).map mvD)) []
/-- all_moves -/
def w_all_moves_g1 : TGd :=
  (gN 1)
def w_all_moves_e1 : TD :=
  (dTup (dCons (dVar 1) (dCons (dVar 2) dNil)))
def w_all_moves_j1 : TDs :=
  (iRange2 (aOf (dUn negD (aOf (dC (.int 1))))) (aVar 1))
def w_all_moves_h1 : TGd :=
  (gN 2)
def w_all_moves_u1 : TTd :=
  (dTest (dCallN 3 S_is_move (aCons (aOf (dVar 0)) (aCons (aOf (dVar 1)) (aCons (aOf (dVar 2)) aNil)))))
def w_all_moves : TSd :=
  (sRet (dComp2 [1, 2] [2] (iRange1 (aOf (dCB lenK (aCons (aOf (dOp ixD (aVar 0) (aOf (dC (.int 1))))) aNil)))) w_all_moves_g1 tYesD w_all_moves_j1 w_all_moves_h1 w_all_moves_u1 w_all_moves_e1))
theorem pm_inner (x : PyData) (lim k : Int) (gs : List (Int × Int)) (hx : WellIs x lim gs) (k0 : 0 ≤ k) (k1 : k < gs.length) (Q : List PyData → DSt → Prop) : ∀ (n : Nat) (lo : Int) (acc : List (Int × Int)) (s : Sl), -1 ≤ lo → lo + n ≤ k → acc.length + n ≤ 1000 →
    (∀ s, Q ((acc ++ lowsOf gs k (wtOf gs k - lim) lo n).map mvD) [.d x, .d (.int k), s]) →
    compD [2] w_all_moves_h1 w_all_moves_u1 w_all_moves_e1 (rangeD lo n) (acc.map mvD) [.d x, .d (.int k), s] Q := by
  intro n
  induction n with
  | zero => intro lo acc s _ _ _ q; rw [lowsOf, List.append_nil] at q; exact q s
  | succ n ih =>
    intro lo acc s h0 h1 h2 q
    rw [rangeD, ev_compC]
    unfold w_all_moves_h1 w_all_moves_u1
    walk_at "ee"
    refine ⟨x, lim, gs, k, lo, rfl, hx, ?_⟩
    rw [isMv_in k0 k1 h0 (by omega)]
    walk_at "ee"
    rw [lowsOf] at q
    by_cases c : wtOf gs k - lim ≤ wtOf gs lo
    · rw [if_pos c] at q
      rw [dT c]
      unfold w_all_moves_e1
      walk_at "ee"
      refine ⟨by rw [List.length_map]; omega, ?_⟩
      have := ih (lo + 1) (acc ++ [(k, lo)]) (.d (.int lo)) (by omega) (by omega) (by simp only [List.length_append, List.length_cons, List.length_nil]; omega) (fun s => by rw [List.append_assoc]; exact q s)
      rw [List.map_append] at this
      exact this
    · rw [if_neg c] at q
      rw [dF c]
      walk_at "ee"
      exact ih (lo + 1) acc (.d (.int lo)) (by omega) (by omega) (by omega) q
theorem pm_loop (x : PyData) (lim : Int) (gs : List (Int × Int)) (hx : WellIs x lim gs) (hg : gs.length ≤ 14) (Q : List PyData → DSt → Prop) : ∀ (n : Nat) (k : Int) (acc : List (Int × Int)) (s1 s2 : Sl), 0 ≤ k → k + n = gs.length → acc.length ≤ 20 * k →
    (∀ s1 s2, Q ((acc ++ mvsFrom lim gs k n).map mvD) [.d x, s1, s2]) →
    compD2 [1, 2] [2] w_all_moves_g1 tYesD w_all_moves_j1 w_all_moves_h1 w_all_moves_u1 w_all_moves_e1 (rangeD k n) (acc.map mvD) [.d x, s1, s2] Q := by
  intro n
  induction n with
  | zero => intro k acc s1 s2 _ _ _ q; rw [mvsFrom, List.append_nil] at q; exact q s1 s2
  | succ n ih =>
    intro k acc s1 s2 h0 h1 h2 q
    rw [rangeD, ev_c2C]
    unfold w_all_moves_g1 w_all_moves_j1
    walk_at "ee"
    refine ⟨by unfold okRg; omega, by unfold okRg; omega, ?_⟩
    rw [show k - -1 = k + 1 by omega]
    have ll := lows_len gs k (wtOf gs k - lim) (k + 1).toNat (-1)
    refine pm_inner x lim k gs hx h0 (by omega) _ (k + 1).toNat (-1) acc _ (by omega) (by omega) (by omega) (fun s => ?_)
    walk_at "ee"
    refine ih (k + 1) (acc ++ lowsOf gs k (wtOf gs k - lim) (-1) (k + 1).toNat) _ _ (by omega) (by omega) (by simp only [List.length_append]; omega) (fun s1 s2 => by rw [List.append_assoc]; exact q s1 s2)
theorem b_all_moves (as : List Ag) (m : Addr) (R : RXc) (Q : Rs → List (List PyData) → Prop) (hl : as.length = 1) (h : S_all_moves as R Q) : w_all_moves (dEnds as m Q noR) (dStart 3 as m) := by
  obtain ⟨x, lim, gs, rfl, hx, hg, q⟩ := h
  obtain ⟨b, bl, h1, h2, h3⟩ := id hx
  have bn := paired_len h3
  unfold w_all_moves
  walk_at "ee"
  rw [is_ix h1]
  walk_at "ee"
  rw [is_len h2, bn]
  walk_at "ee"
  refine ⟨by unfold okRg; omega, ?_⟩
  refine pm_loop x lim gs hx hg _ gs.length 0 [] _ _ (by omega) (by omega) (by simp) (fun s1 s2 => ?_)
  rw [List.nil_append]
  walk_at "ee"
  exact q
def S_legal_moves : DSp := fun as R Q => ∃ (x y : PyData) (lim : Int) (gs : List (Int × Int)) (st : List Int), as = [.d x, .d y] ∧ WellIs x lim gs ∧ gs.length ≤ 14 ∧ SeqIs y (ilD st) ∧ st.length = gs.length ∧ Q (.f ((legMv lim gs st).map mvD)) []
/-- legal_moves -/
def w_legal_moves_g1 : TGd :=
  (gTupD 2 (gConsD (gN 2) (gConsD (gN 3) gNilD)))
def w_legal_moves_t1 : TTd :=
  (dTest (dCallN 5 S_people_are_there (aCons (aOf (dVar 0)) (aCons (aOf (dVar 1)) (aCons (aOf (dVar 2)) (aCons (aOf (dVar 3)) (aCons (aOf (dC (.int 1))) aNil)))))))
def w_legal_moves_e1 : TD :=
  (dTup (dCons (dVar 2) (dCons (dVar 3) dNil)))
def w_legal_moves : TSd :=
  (sRet (dComp [2, 3] (iSeq (dCallN 1 S_all_moves (aCons (aOf (dVar 0)) aNil))) w_legal_moves_g1 w_legal_moves_t1 w_legal_moves_e1))
theorem pl_loop (x y : PyData) (lim : Int) (gs : List (Int × Int)) (st : List Int) (hx : WellIs x lim gs) (hy : SeqIs y (ilD st)) (hs : st.length = gs.length) (Q : List PyData → DSt → Prop) : ∀ (ms acc : List (Int × Int)) (s2 s3 : Sl), (∀ p ∈ ms, 0 ≤ p.1 ∧ p.1 < gs.length ∧ -1 ≤ p.2 ∧ p.2 < p.1) → acc.length + ms.length ≤ 1000 →
    (∀ s2 s3, Q ((acc ++ ms.filter (isLegal gs st)).map mvD) [.d x, .d y, s2, s3]) →
    compD [2, 3] w_legal_moves_g1 w_legal_moves_t1 w_legal_moves_e1 (ms.map mvD) (acc.map mvD) [.d x, .d y, s2, s3] Q := by
  intro ms
  induction ms with
  | nil => intro acc s2 s3 _ _ q; rw [List.filter_nil, List.append_nil] at q; exact q s2 s3
  | cons p ms ih =>
    intro acc s2 s3 hm hl q
    have hp := hm p (by simp)
    have hm' : ∀ p ∈ ms, 0 ≤ p.1 ∧ p.1 < gs.length ∧ -1 ≤ p.2 ∧ p.2 < p.1 := fun p h => hm p (by simp [h])
    simp only [List.length_cons] at hl
    rw [List.map_cons, ev_compC]
    unfold w_legal_moves_g1 w_legal_moves_t1
    walk_at "ee"
    refine ⟨x, y, lim, gs, st, p.1, p.2, 1, rfl, hx, hy, hs, hp.1, hp.2.1, hp.2.2.1, by omega, ?_⟩
    rw [isLegN_one hp.2.2.1]
    rw [List.filter_cons] at q
    cases c : isLegal gs st (p.1, p.2) with
    | true =>
      have c' : isLegal gs st p = true := c
      rw [c'] at q
      unfold w_legal_moves_e1
      walk_at "ee"
      refine ⟨by rw [List.length_map]; omega, ?_⟩
      have := ih (acc ++ [p]) (.d (.int p.1)) (.d (.int p.2)) hm' (by simp only [List.length_append, List.length_cons, List.length_nil]; omega) (fun s2 s3 => by rw [List.append_assoc]; exact q s2 s3)
      rw [List.map_append] at this
      exact this
    | false =>
      have c' : isLegal gs st p = false := c
      rw [c'] at q
      walk_at "ee"
      exact ih acc _ _ hm' (by omega) q
theorem b_legal_moves (as : List Ag) (m : Addr) (R : RXc) (Q : Rs → List (List PyData) → Prop) (hl : as.length = 2) (h : S_legal_moves as R Q) : w_legal_moves (dEnds as m Q noR) (dStart 4 as m) := by
  obtain ⟨x, y, lim, gs, st, rfl, hx, hg, hy, hs, q⟩ := h
  unfold w_legal_moves
  walk_at "ee"
  refine ⟨x, lim, gs, rfl, hx, hg, ?_⟩
  walk_at "ee"
  have := allMv_len lim gs hg
  refine pl_loop x y lim gs st hx hy hs _ (allMv lim gs) [] _ _ (allMv_mem lim gs) (by simp only [List.length_nil]; omega) (fun s2 s3 => ?_)
  rw [List.nil_append]
  walk_at "ee"
  exact q
end LW

namespace LW
open PySem L2 DL
local macro_rules | `(tactic| walk_at "ee") => `(tactic| simp only [↓asB_b, ↓with1_s, ↓with2_s, ↓asI_s, ↓withL_s, ↓withA_s, ↓putI_s, ↓subI_s, ↓as2I_s, ↓appV_s, ↓isO_o, ↓ev_var, ↓ev_vd, ↓ev_vo, ↓ev_c, ↓ev_avar, ↓ev_ad, ↓ev_ao, ↓ev_kz, ↓ev_of, ↓ev_kof, ↓ev_op, ↓ev_op1, ↓ev_op2, ↓ev_op3, ↓ev_un, ↓ev_un1, ↓ev_un2, ↓ev_test, ↓ev_ktest, ↓ev_and, ↓ev_kandT, ↓ev_kandF, ↓ev_or, ↓ev_korT, ↓ev_korF, ↓ev_not, ↓ev_knot, ↓ev_andV, ↓ev_kandV, ↓ev_kandVT, ↓ev_kandVF, ↓ev_orV, ↓ev_korV, ↓ev_korVT, ↓ev_korVF, ↓ev_notV, ↓ev_knotV, ↓ev_knotV2, ↓ev_ifE, ↓ev_kifET, ↓ev_kifEF, ↓ev_chain, ↓ev_ch1, ↓ev_ch2, ↓ev_ch2b, ↓ev_ch3, ↓ev_ch4T, ↓ev_ch4F, ↓ev_ch5, ↓ev_ch6, ↓ev_nil, ↓ev_cons, ↓ev_kcons, ↓ev_kcons2, ↓ev_lst, ↓ev_klst, ↓ev_tup, ↓ev_ktup, ↓ev_rnil, ↓ev_rcons, ↓ev_krcons, ↓ev_krcons2, ↓ev_anil, ↓ev_acons, ↓ev_kacons, ↓ev_kacons2, ↓ev_pnone, ↓ev_psome, ↓ev_kp, ↓ev_kp2, ↓ev_sl, ↓ev_sl1, ↓ev_sl2, ↓ev_sl3, ↓ev_sl4, ↓ev_slL, ↓ev_slT, ↓ev_cb, ↓ev_kcb, ↓ev_kcb2, ↓ev_isi, ↓ev_kisi, ↓ev_kisi2, ↓ev_call, ↓ev_kcall, ↓ev_callK, ↓ev_kcallK, ↓ev_kq, ↓ev_comp, ↓ev_kcomp, ↓ev_kcompE, ↓ev_compN, ↓ev_compC, ↓ev_kc1, ↓ev_kc2T, ↓ev_kc2F, ↓ev_kc3, ↓ev_yes, ↓ev_gn, ↓ev_gnil, ↓ev_gcons, ↓ev_kg, ↓ev_gtup, ↓ev_seqT, ↓ev_seqL, ↓ev_sub, ↓ev_ksub, ↓ev_iseq, ↓ev_kiseq, ↓ev_seqVL, ↓ev_seqVT, ↓ev_kqd, ↓ev_rg1, ↓ev_krg1, ↓ev_krg1b, ↓ev_rg2, ↓ev_krg2, ↓ev_krg2b, ↓ev_krg2c, ↓ev_en, ↓ev_ken, ↓ev_enL, ↓ev_zp, ↓ev_kzp, ↓ev_kzp2, ↓ev_zpL, ↓ev_zpT, ↓ev_zpLT, ↓ev_zpTL, ↓ev_snext, ↓ev_sseq, ↓ev_knx, ↓nx_set, ↓rt_set, ↓bk_set, ↓ct_set, ↓ex_set, ↓nx_for, ↓rt_for, ↓bk_for, ↓ct_for, ↓ex_for, ↓nx_end, ↓rt_end, ↓ex_end, ↓ev_sbrk, ↓ev_scont, ↓ev_sdrop, ↓ev_kdrop, ↓ev_sret, ↓ev_sretN, ↓ev_sif, ↓ev_kifT, ↓ev_kifF, ↓ev_sset, ↓ev_kset, ↓ev_sasg, ↓ev_kasg, ↓ev_saug, ↓ev_kaug, ↓ev_kaug2, ↓ev_kaug3, ↓ev_sapp, ↓ev_kapp, ↓ev_spar, ↓ev_kpar, ↓ev_sfor, ↓ev_kfori, ↓ev_forN, ↓ev_forC, ↓ev_kfor, ↓o_addI, ↓o_addL, ↓o_addT, ↓o_addS, ↓o_sub, ↓o_iadd, ↓o_mod, ↓o_fdiv, ↓o_pow, ↓o_mulI, ↓o_mulL, ↓o_mulT, ↓o_lt, ↓o_le, ↓o_gt, ↓o_ge, ↓o_isB, ↓o_notB, ↓o_isN, ↓o_notN, ↓n_none, ↓n_int, ↓n_bool, ↓n_str, ↓n_list, ↓n_tup, ↓o_neg, ↓o_rev, ↓ixV_s, ↓o_ixL, ↓o_ixT, ↓c_abs, ↓c_intI, ↓c_intB, ↓c_lenL, ↓c_lenT, ↓c_max2, ↓c_min2, ↓c_listL, ↓c_listT, ↓c_tupL, ↓c_tupT, ↓c_divmod, ↓c_str, ↓c_sum1, ↓c_sumT1, ↓c_max1, ↓c_min1, ↓c_all1, ↓c_any1, ↓g_0, ↓g_s, ↓s_0, ↓s_s, ↓v_un, ↓v_d, ↓v_o, ↓res_x, ↓res_v, ↓val_d, ↓val_f, ↓sl_d, ↓sl_f, ↓ag_d, ↓ag_o, ↓cons?_s, ↓ra_nil, ↓cons2?_s, ↓ra_cons, ↓ag_nil, ↓ag_x, ↓agV_s, ↓ag_v, ↓nr_nil, ↓nr_x, ↓nrV_d, ↓nrV_o, ↓nr_v, ↓vx_nil, ↓vx_x, ↓vx_v, ↓putV_o, ↓pb_0, ↓pb_1, ↓pl_nil, ↓pl_0, ↓pl_1, ↓pl_2, ↓pl_3, ↓rd_0, ↓bx_nil, ↓bx_d, ↓bx_o, ↓rd_o, ↓kd_un, ↓kd_d, ↓sa_nil, ↓sa_cons, ↓wp_nil, ↓wp_cons, ↓rs_nil, ↓rs_cons, ↓ev_lc2, ↓ev_klc2, ↓ev_c2N, ↓ev_c2C, ↓ev_k21, ↓ev_k22T, ↓ev_k22F, ↓ev_k23, ↓ev_k24, ↓c_repr, ↓c_sort, ↓ev_callP, ↓ev_peek, ↓ev_peek2, ↓ev_scal, ↓ev_callF, ↓ev_knew, ↓ev_kdat, ↓c_listS, ↓c_tupS, ↓c_lenS, ↓o_well0, ↓o_well1, ↓seqT_g, ↓o_grp0, ↓o_grp1, ↓seqT_m, ↓o_mv0, ↓o_mv1, ↓o_st, ↓ev_lz, ↓ev_klz, ↓ev_klz2, ↓ev_klz3, ↓ev_tru, ↓ev_ktruB, ↓ev_ktruL, ↓ev_ktruF, ↓ev_nest, ↓ev_knest, Rs.val, Rs.sl, Ag.sl, Opd.res, Sl.val, Sl.keepD, isD_n, isD_b, isD_i, isD_s, isD_l, isD_t, eq_self, eqD_int, neD_int, eqD_ll, neD_ll, eqD_tt, neD_tt, eqD_bb, neD_bb, eqD_ss, neD_ss, atI_0, atI_1, atI_2, atI_3, ixN_1_0, ixN_2_0, ixN_2_1, ixN_3_0, ixN_3_1, ixN_3_2, ixN_4_0, ixN_4_1, ixN_4_2, ixN_4_3, dStart, repUn, tYesD, List.map_cons, List.map_nil, List.cons_append, List.nil_append, List.length_cons, List.length_nil, true_and, and_true, ne_eq, not_false_eq_true, reduceCtorEq, Option.some.injEq, Option.map_none, Option.map_some, Nat.reduceAdd, Nat.reduceSub, Nat.reduceLT, Nat.reduceLeDiff, Nat.zero_lt_succ, Nat.le_refl, Bool.not_true, Bool.not_false, decide_true, decide_false, Int.reduceLE, Int.reduceLT, Int.reduceEq, Int.toNat_zero, Int.reduceToNat, Int.reducePow, Int.reduceNeg, Int.toNat_one, List.set_cons_zero, List.set_cons_succ, List.not_mem_nil, List.mem_cons, false_or, or_false, forall_eq, forall_eq_or_imp, if_true, if_false, ite_true, ite_false, Bool.false_eq_true, forall_const, implies_true, false_implies])
/-! ### segments and suffix counts -/
def rngI (a : Int) : Nat → List Int
  | 0 => []
  | n + 1 => a :: rngI (a + 1) n
theorem rangeD_rng : ∀ (n : Nat) (a : Int), rangeD a n = ilD (rngI a n)
  | 0, _ => rfl
  | n + 1, a => by rw [rangeD, rngI, rangeD_rng n (a + 1)]; rfl
theorem rngI_len : ∀ (n : Nat) (a : Int), (rngI a n).length = n
  | 0, _ => rfl
  | n + 1, a => by rw [rngI, List.length_cons, rngI_len n]
theorem rngI_snoc : ∀ (n : Nat) (a : Int), rngI a (n + 1) = rngI a n ++ [a + n]
  | 0, a => by simp [rngI]
  | n + 1, a => by
    rw [rngI, rngI_snoc n (a + 1), rngI, List.cons_append]
    have e : a + 1 + (n : Int) = a + ((n + 1 : Nat) : Int) := by omega
    rw [e]
theorem rngI_app : ∀ (m n : Nat) (a : Int), rngI a (m + n) = rngI a m ++ rngI (a + m) n
  | 0, n, a => by simp [rngI]
  | m + 1, n, a => by
    have e : m + 1 + n = (m + n) + 1 := by omega
    rw [e, rngI, rngI_app m n (a + 1), rngI, List.cons_append]
    have e : a + 1 + (m : Int) = a + ((m + 1 : Nat) : Int) := by omega
    rw [e]
theorem rngI_get : ∀ (n i : Nat) (a : Int), i < n → (rngI a n)[i]? = some (a + i)
  | 0, _, _, h => by omega
  | n + 1, 0, a, _ => by simp [rngI]
  | n + 1, i + 1, a, h => by
    rw [rngI, List.getElem?_cons_succ, rngI_get n i (a + 1) (by omega)]
    congr 1; omega
/-- a group that is not within the reach of the one before it -/
def cutB (lim : Int) (gs : List (Int × Int)) (k : Int) : Bool := decide (lim < wtOf gs k - wtOf gs (k - 1))
def runS (c : Int → Bool) (f : Int → Int) : Int → Nat → Int
  | _, 0 => 0
  | k, m + 1 => f k + (if c (k + 1) = true then 0 else runS c f (k + 1) m)
def scOf (lim : Int) (gs : List (Int × Int)) (st : List Int) : List Int := (rngI 0 gs.length).map fun k => runS (cutB lim gs) (stAt st) k (gs.length - k).toNat
theorem scOf_len (lim : Int) (gs : List (Int × Int)) (st : List Int) : (scOf lim gs st).length = gs.length := by unfold scOf; rw [List.length_map, rngI_len]
def noCut (c : Int → Bool) (a : Int) (m : Nat) : Prop := ∀ i, a < i → i ≤ a + m → c i = false
inductive SegOk (c : Int → Bool) (n : Int) : Int → List (List Int) → Prop
  | nil : SegOk c n n []
  | cons {a : Int} {m : Nat} {ls : List (List Int)} : noCut c a m → a + m + 1 ≤ n → (a + m + 1 = n ∨ c (a + m + 1) = true) → SegOk c n (a + m + 1) ls → SegOk c n a (rngI a (m + 1) :: ls)
def Pre (c : Int → Bool) : Int → List (List Int) → Prop
  | k, [] => k = 0
  | k, l :: ls => ∃ (a : Int) (m : Nat), l = rngI a (m + 1) ∧ k = a + m + 1 ∧ 0 ≤ a ∧ noCut c a m ∧ Pre c a ls ∧ (a = 0 ∨ c a = true)
theorem pre_new {c : Int → Bool} {k : Int} {acc : List (List Int)} (h : Pre c k acc) (h0 : 0 ≤ k) (hc : k = 0 ∨ c k = true) : Pre c (k + 1) ([k] :: acc) :=
  ⟨k, 0, rfl, by omega, h0, fun i h1 h2 => by omega, h, hc⟩
theorem pre_more {c : Int → Bool} {k : Int} {l : List Int} {ls : List (List Int)} (h : Pre c k (l :: ls)) (hc : c k = false) : Pre c (k + 1) ((l ++ [k]) :: ls) := by
  obtain ⟨a, m, rfl, e, h0, hn, hp, hs⟩ := h
  refine ⟨a, m + 1, ?_, by omega, h0, fun i h1 h2 => ?_, hp, hs⟩
  · rw [rngI_snoc (m + 1) a]
    congr 2; omega
  · by_cases z : i = k
    · rw [z]; exact hc
    · exact hn i h1 (by omega)
theorem pre_fin {c : Int → Bool} {n : Int} : ∀ (acc tail : List (List Int)) (k : Int), Pre c k acc → k ≤ n → (k = n ∨ c k = true) → SegOk c n k tail → SegOk c n 0 (acc.reverse ++ tail)
  | [], tail, k, h, _, _, t => by
    have e : k = 0 := h
    subst e; exact t
  | l :: ls, tail, k, h, hn, hk, t => by
    obtain ⟨a, m, rfl, e, h0, hc, hp, hs⟩ := h
    subst e
    have t' : SegOk c n a (rngI a (m + 1) :: tail) := .cons hc hn hk t
    rw [List.reverse_cons, List.append_assoc]
    cases ls with
    | nil =>
      have e : a = 0 := hp
      subst e
      exact t'
    | cons l' ls' =>
      refine pre_fin (l' :: ls') (rngI a (m + 1) :: tail) a hp (by omega) ?_ t'
      rcases hs with z | z
      · obtain ⟨a', m', _, e', h0', _⟩ := hp
        omega
      · exact .inr z
def segD (l : List Int) : PyData := .list (ilD l)
def S_starts_ungrounded : DSp := fun as R Q => ∃ (x : PyData) (lim : Int) (gs : List (Int × Int)) (k : Int), as = [.d x, .d (.int k)] ∧ WellIs x lim gs ∧ 0 ≤ k ∧ k < gs.length ∧ Q (.d (.bool (cutB lim gs k))) []
/-- starts_ungrounded -/
def w_starts_ungrounded : TSd :=
  (sRet (dNotV (dCallN 3 S_is_move (aCons (aOf (dVar 0)) (aCons (aOf (dVar 1)) (aCons (aOf (dOp subD (aVar 1) (aOf (dC (.int 1))))) aNil))))))
theorem b_starts_ungrounded (as : List Ag) (m : Addr) (R : RXc) (Q : Rs → List (List PyData) → Prop) (hl : as.length = 2) (h : S_starts_ungrounded as R Q) : w_starts_ungrounded (dEnds as m Q noR) (dStart 2 as m) := by
  obtain ⟨x, lim, gs, k, rfl, hx, k0, k1, q⟩ := h
  unfold w_starts_ungrounded
  walk_at "ee"
  refine ⟨x, lim, gs, k, k - 1, rfl, hx, ?_⟩
  walk_at "ee"
  have e : (!isMv lim gs k (k - 1)) = cutB lim gs k := by
    rw [isMv_in k0 k1 (by omega) (by omega)]
    unfold cutB
    by_cases c : wtOf gs k - lim ≤ wtOf gs (k - 1)
    · rw [dT c, dF (by omega)]; rfl
    · rw [dF c, dT (by omega)]; rfl
  rw [e]
  exact q
def S_segments : DSp := fun as R Q => ∃ (x : PyData) (lim : Int) (gs : List (Int × Int)), as = [.d x] ∧ WellIs x lim gs ∧ gs.length ≤ 14 ∧ ∀ ss, SegOk (cutB lim gs) gs.length 0 ss → Q (.d (.list (ss.map segD))) []
/-- segments -/
def w_segments_t1 : TTd :=
  (dOr (dTest (dOp eqD (aVar 2) (aOf (dC (.int 0))))) (dTest (dCallN 2 S_starts_ungrounded (aCons (aOf (dVar 0)) (aCons (aOf (dVar 2)) aNil)))))
def w_segments : TSd :=
  (sSeq (sNest 1 2 [] (iRange1 (aOf (dCB lenK (aCons (aOf (dOp ixD (aVar 0) (aOf (dC (.int 1))))) aNil)))) w_segments_t1)
  (sRet (dVar 1)))
theorem seg_loop (x : PyData) (lim : Int) (gs : List (Int × Int)) (hx : WellIs x lim gs) (hg : gs.length ≤ 14) (D : DEnds) : ∀ (n : Nat) (k : Int) (acc : List (List Int)) (s1 s2 : Sl), 0 ≤ k → k + n = gs.length → Pre (cutB lim gs) k acc → acc.length ≤ k → (∀ l ∈ acc, (l.length : Int) ≤ k) →
    (∀ ss s2, SegOk (cutB lim gs) gs.length 0 ss → D.nx [.d x, .o none (ss.map segD), s2]) →
    nestD 1 2 w_segments_t1 D (rangeD k n) (acc.map ilD) [.d x, s1, s2] := by
  intro n
  induction n with
  | zero =>
    intro k acc s1 s2 h0 h1 hp hl hll q
    rw [rangeD, nestD]
    have ek : k = (gs.length : Int) := by omega
    have := pre_fin (n := (gs.length : Int)) acc [] k hp (by omega) (.inl ek) (by rw [ek]; exact .nil)
    rw [List.append_nil] at this
    refine ⟨by show 1 < 3; decide, ?_⟩
    have q' := q _ s2 this
    have e : (acc.map ilD).reverse.map PyData.list = acc.reverse.map segD := by
      rw [← List.map_reverse, List.map_map]; rfl
    rw [e]
    exact q'
  | succ n ih =>
    intro k acc s1 s2 h0 h1 hp hl hll q
    rw [rangeD, nestD]
    refine ⟨by show 2 < 3; decide, ?_⟩
    unfold w_segments_t1
    walk_at "ee"
    by_cases c : k = 0
    · rw [dT c]
      walk_at "ee"
      refine ⟨by rw [List.length_map]; omega, ?_⟩
      have := ih (k + 1) ([k] :: acc) s1 (.d (.int k)) (by omega) (by omega) (pre_new hp h0 (.inl c)) (by simp only [List.length_cons]; omega) (fun l hl => by
        rcases List.mem_cons.mp hl with z | z
        · rw [z]; simp only [List.length_cons, List.length_nil]; omega
        · have := hll l z; omega) q
      exact this
    · rw [dF c]
      walk_at "ee"
      refine ⟨x, lim, gs, k, rfl, hx, h0, by omega, ?_⟩
      walk_at "ee"
      cases e : cutB lim gs k with
      | true =>
        walk_at "ee"
        refine ⟨by rw [List.length_map]; omega, ?_⟩
        have := ih (k + 1) ([k] :: acc) s1 (.d (.int k)) (by omega) (by omega) (pre_new hp h0 (.inr e)) (by simp only [List.length_cons]; omega) (fun l hl => by
          rcases List.mem_cons.mp hl with z | z
          · rw [z]; simp only [List.length_cons, List.length_nil]; omega
          · have := hll l z; omega) q
        exact this
      | false =>
        walk_at "ee"
        cases acc with
        | nil => exact (c hp).elim
        | cons l ls =>
          have hl0 := hll l (by simp)
          simp only [List.map_cons, List.length_cons] at hl ⊢
          refine ⟨by rw [List.length_map]; omega, by unfold ilD; rw [List.length_map]; omega, ?_⟩
          have := ih (k + 1) ((l ++ [k]) :: ls) s1 (.d (.int k)) (by omega) (by omega) (pre_more hp e) (by simp only [List.length_cons]; omega) (fun l' hl' => by
            rcases List.mem_cons.mp hl' with z | z
            · rw [z]; simp only [List.length_append, List.length_cons, List.length_nil]; omega
            · have := hll l' (by simp [z]); omega) q
          unfold ilD at this ⊢
          simp only [List.map_cons, List.map_append, List.map_nil] at this
          exact this
theorem b_segments (as : List Ag) (m : Addr) (R : RXc) (Q : Rs → List (List PyData) → Prop) (hl : as.length = 1) (h : S_segments as R Q) : w_segments (dEnds as m Q noR) (dStart 3 as m) := by
  obtain ⟨x, lim, gs, rfl, hx, hg, q⟩ := h
  obtain ⟨b, bl, h1, h2, h3⟩ := id hx
  have bn := paired_len h3
  unfold w_segments
  walk_at "ee"
  rw [is_ix h1]
  walk_at "ee"
  rw [is_len h2, bn]
  walk_at "ee"
  refine ⟨by decide, by unfold okRg; omega, ?_⟩
  refine seg_loop x lim gs hx hg _ gs.length 0 [] _ _ (by omega) (by omega) rfl (by simp) (by simp) (fun ss s2 h => ?_)
  walk_at "ee"
  exact q ss h
end LW

namespace LW
open PySem L2 DL
local macro_rules | `(tactic| walk_at "ee") => `(tactic| simp only [↓asB_b, ↓with1_s, ↓with2_s, ↓asI_s, ↓withL_s, ↓withA_s, ↓putI_s, ↓subI_s, ↓as2I_s, ↓appV_s, ↓isO_o, ↓ev_var, ↓ev_vd, ↓ev_vo, ↓ev_c, ↓ev_avar, ↓ev_ad, ↓ev_ao, ↓ev_kz, ↓ev_of, ↓ev_kof, ↓ev_op, ↓ev_op1, ↓ev_op2, ↓ev_op3, ↓ev_un, ↓ev_un1, ↓ev_un2, ↓ev_test, ↓ev_ktest, ↓ev_and, ↓ev_kandT, ↓ev_kandF, ↓ev_or, ↓ev_korT, ↓ev_korF, ↓ev_not, ↓ev_knot, ↓ev_andV, ↓ev_kandV, ↓ev_kandVT, ↓ev_kandVF, ↓ev_orV, ↓ev_korV, ↓ev_korVT, ↓ev_korVF, ↓ev_notV, ↓ev_knotV, ↓ev_knotV2, ↓ev_ifE, ↓ev_kifET, ↓ev_kifEF, ↓ev_chain, ↓ev_ch1, ↓ev_ch2, ↓ev_ch2b, ↓ev_ch3, ↓ev_ch4T, ↓ev_ch4F, ↓ev_ch5, ↓ev_ch6, ↓ev_nil, ↓ev_cons, ↓ev_kcons, ↓ev_kcons2, ↓ev_lst, ↓ev_klst, ↓ev_tup, ↓ev_ktup, ↓ev_rnil, ↓ev_rcons, ↓ev_krcons, ↓ev_krcons2, ↓ev_anil, ↓ev_acons, ↓ev_kacons, ↓ev_kacons2, ↓ev_pnone, ↓ev_psome, ↓ev_kp, ↓ev_kp2, ↓ev_sl, ↓ev_sl1, ↓ev_sl2, ↓ev_sl3, ↓ev_sl4, ↓ev_slL, ↓ev_slT, ↓ev_cb, ↓ev_kcb, ↓ev_kcb2, ↓ev_isi, ↓ev_kisi, ↓ev_kisi2, ↓ev_call, ↓ev_kcall, ↓ev_callK, ↓ev_kcallK, ↓ev_kq, ↓ev_comp, ↓ev_kcomp, ↓ev_kcompE, ↓ev_compN, ↓ev_compC, ↓ev_kc1, ↓ev_kc2T, ↓ev_kc2F, ↓ev_kc3, ↓ev_yes, ↓ev_gn, ↓ev_gnil, ↓ev_gcons, ↓ev_kg, ↓ev_gtup, ↓ev_seqT, ↓ev_seqL, ↓ev_sub, ↓ev_ksub, ↓ev_iseq, ↓ev_kiseq, ↓ev_seqVL, ↓ev_seqVT, ↓ev_kqd, ↓ev_rg1, ↓ev_krg1, ↓ev_krg1b, ↓ev_rg2, ↓ev_krg2, ↓ev_krg2b, ↓ev_krg2c, ↓ev_en, ↓ev_ken, ↓ev_enL, ↓ev_zp, ↓ev_kzp, ↓ev_kzp2, ↓ev_zpL, ↓ev_zpT, ↓ev_zpLT, ↓ev_zpTL, ↓ev_snext, ↓ev_sseq, ↓ev_knx, ↓nx_set, ↓rt_set, ↓bk_set, ↓ct_set, ↓ex_set, ↓nx_for, ↓rt_for, ↓bk_for, ↓ct_for, ↓ex_for, ↓nx_end, ↓rt_end, ↓ex_end, ↓ev_sbrk, ↓ev_scont, ↓ev_sdrop, ↓ev_kdrop, ↓ev_sret, ↓ev_sretN, ↓ev_sif, ↓ev_kifT, ↓ev_kifF, ↓ev_sset, ↓ev_kset, ↓ev_sasg, ↓ev_kasg, ↓ev_saug, ↓ev_kaug, ↓ev_kaug2, ↓ev_kaug3, ↓ev_sapp, ↓ev_kapp, ↓ev_spar, ↓ev_kpar, ↓ev_sfor, ↓ev_kfori, ↓ev_forN, ↓ev_forC, ↓ev_kfor, ↓o_addI, ↓o_addL, ↓o_addT, ↓o_addS, ↓o_sub, ↓o_iadd, ↓o_mod, ↓o_fdiv, ↓o_pow, ↓o_mulI, ↓o_mulL, ↓o_mulT, ↓o_lt, ↓o_le, ↓o_gt, ↓o_ge, ↓o_isB, ↓o_notB, ↓o_isN, ↓o_notN, ↓n_none, ↓n_int, ↓n_bool, ↓n_str, ↓n_list, ↓n_tup, ↓o_neg, ↓o_rev, ↓ixV_s, ↓o_ixL, ↓o_ixT, ↓c_abs, ↓c_intI, ↓c_intB, ↓c_lenL, ↓c_lenT, ↓c_max2, ↓c_min2, ↓c_listL, ↓c_listT, ↓c_tupL, ↓c_tupT, ↓c_divmod, ↓c_str, ↓c_sum1, ↓c_sumT1, ↓c_max1, ↓c_min1, ↓c_all1, ↓c_any1, ↓g_0, ↓g_s, ↓s_0, ↓s_s, ↓v_un, ↓v_d, ↓v_o, ↓res_x, ↓res_v, ↓val_d, ↓val_f, ↓sl_d, ↓sl_f, ↓ag_d, ↓ag_o, ↓cons?_s, ↓ra_nil, ↓cons2?_s, ↓ra_cons, ↓ag_nil, ↓ag_x, ↓agV_s, ↓ag_v, ↓nr_nil, ↓nr_x, ↓nrV_d, ↓nrV_o, ↓nr_v, ↓vx_nil, ↓vx_x, ↓vx_v, ↓putV_o, ↓pb_0, ↓pb_1, ↓pl_nil, ↓pl_0, ↓pl_1, ↓pl_2, ↓pl_3, ↓rd_0, ↓bx_nil, ↓bx_d, ↓bx_o, ↓rd_o, ↓kd_un, ↓kd_d, ↓sa_nil, ↓sa_cons, ↓wp_nil, ↓wp_cons, ↓rs_nil, ↓rs_cons, ↓ev_lc2, ↓ev_klc2, ↓ev_c2N, ↓ev_c2C, ↓ev_k21, ↓ev_k22T, ↓ev_k22F, ↓ev_k23, ↓ev_k24, ↓c_repr, ↓c_sort, ↓ev_callP, ↓ev_peek, ↓ev_peek2, ↓ev_scal, ↓ev_callF, ↓ev_knew, ↓ev_kdat, ↓c_listS, ↓c_tupS, ↓c_lenS, ↓o_well0, ↓o_well1, ↓seqT_g, ↓o_grp0, ↓o_grp1, ↓seqT_m, ↓o_mv0, ↓o_mv1, ↓o_st, ↓ev_lz, ↓ev_klz, ↓ev_klz2, ↓ev_klz3, ↓ev_tru, ↓ev_ktruB, ↓ev_ktruL, ↓ev_ktruF, ↓ev_nest, ↓ev_knest, Rs.val, Rs.sl, Ag.sl, Opd.res, Sl.val, Sl.keepD, isD_n, isD_b, isD_i, isD_s, isD_l, isD_t, eq_self, eqD_int, neD_int, eqD_ll, neD_ll, eqD_tt, neD_tt, eqD_bb, neD_bb, eqD_ss, neD_ss, atI_0, atI_1, atI_2, atI_3, ixN_1_0, ixN_2_0, ixN_2_1, ixN_3_0, ixN_3_1, ixN_3_2, ixN_4_0, ixN_4_1, ixN_4_2, ixN_4_3, dStart, repUn, tYesD, List.map_cons, List.map_nil, List.cons_append, List.nil_append, List.length_cons, List.length_nil, true_and, and_true, ne_eq, not_false_eq_true, reduceCtorEq, Option.some.injEq, Option.map_none, Option.map_some, Nat.reduceAdd, Nat.reduceSub, Nat.reduceLT, Nat.reduceLeDiff, Nat.zero_lt_succ, Nat.le_refl, Bool.not_true, Bool.not_false, decide_true, decide_false, Int.reduceLE, Int.reduceLT, Int.reduceEq, Int.toNat_zero, Int.reduceToNat, Int.reducePow, Int.reduceNeg, Int.toNat_one, List.set_cons_zero, List.set_cons_succ, List.not_mem_nil, List.mem_cons, false_or, or_false, forall_eq, forall_eq_or_imp, if_true, if_false, ite_true, ite_false, Bool.false_eq_true, forall_const, implies_true, false_implies])
theorem run_sum {c : Int → Bool} {st : List Int} {n e : Int} (hn : (st.length : Int) = n) (he : e + 1 ≤ n) (hc : e + 1 = n ∨ c (e + 1) = true) : ∀ (j : Nat) (k : Int), 0 ≤ k → k + j = e → (∀ i, k < i → i ≤ e → c i = false) → ((st.drop k.toNat).take (j + 1)).sum = runS c (stAt st) k (n - k).toNat := by
  intro j
  induction j with
  | zero =>
    intro k h0 h1 _
    have hk : k.toNat < st.length := by omega
    obtain ⟨m', hm⟩ : ∃ m', (n - k).toNat = m' + 1 := ⟨(n - k).toNat - 1, by omega⟩
    rw [hm, runS, List.drop_eq_getElem_cons hk]
    simp only [List.take_succ_cons, List.take_zero, List.sum_cons, List.sum_nil]
    have e1 : stAt st k = st[k.toNat] := by unfold stAt; rw [List.getElem?_eq_getElem hk]; rfl
    rw [e1]
    rcases hc with z | z
    · have : m' = 0 := by omega
      subst this
      split <;> rfl
    · have e2 : k + 1 = e + 1 := by omega
      rw [e2, z]; rfl
  | succ j ih =>
    intro k h0 h1 hno
    have hk : k.toNat < st.length := by omega
    obtain ⟨m', hm⟩ : ∃ m', (n - k).toNat = m' + 1 := ⟨(n - k).toNat - 1, by omega⟩
    have := ih (k + 1) (by omega) (by omega) (fun i h h' => hno i (by omega) h')
    have e1 : stAt st k = st[k.toNat] := by unfold stAt; rw [List.getElem?_eq_getElem hk]; rfl
    have e2 : (k + 1).toNat = k.toNat + 1 := by omega
    have e3 : (n - (k + 1)).toNat = m' := by omega
    rw [e2, e3] at this
    rw [hm, runS, List.drop_eq_getElem_cons hk, List.take_succ_cons, List.sum_cons, this, e1, hno (k + 1) (by omega) (by omega)]
    rfl
theorem is_sl {y : PyData} {xs : List PyData} (h : SeqIs y xs) (lo hi : Option Int) (k : Rs → Prop) (q : ∀ r, SeqIs r.val (cutD xs lo hi) → k r) : slD y lo hi k := by
  rcases h with rfl | rfl
  · exact q (.d (.tuple (cutD xs lo hi))) (.inl rfl)
  · exact q (.f (cutD xs lo hi)) (.inr rfl)
theorem is_sum {z : PyData} {ns : List Int} (h : SeqIs z (ilD ns)) (k : Rs → Prop) (q : k (.d (.int ns.sum))) : sumK [z] k := by
  rcases h with rfl | rfl
  · exact ⟨ns, rfl, q⟩
  · exact ⟨ns, rfl, q⟩
theorem cut_in {st : List Int} {k e : Int} (h0 : 0 ≤ k) (h1 : k ≤ e) (h2 : e ≤ st.length) : cutD (ilD st) (some k) (some e) = ilD ((st.drop k.toNat).take (e - k).toNat) := by
  rw [cut_ints, sIx_i h0, sIx_i (by omega)]
  congr 2
  · omega
  · congr 1; omega
theorem at_end (m : Nat) (a : Int) : atI (ilD (rngI a (m + 1))) (-1) = some (.int (a + m)) := by
  unfold atI ixN
  have el : (ilD (rngI a (m + 1))).length = m + 1 := by unfold ilD; rw [List.length_map, rngI_len]
  rw [el, if_neg (by decide), if_pos (by omega)]
  have e : (-1 + ((m + 1 : Nat) : Int)).toNat = m := by omega
  show (ilD (rngI a (m + 1)))[(-1 + ((m + 1 : Nat) : Int)).toNat]? = _
  rw [e]
  unfold ilD
  rw [List.getElem?_map, rngI_get (m + 1) m a (by omega)]
  rfl
def S_suffix_counts : DSp := fun as R Q => ∃ (x y : PyData) (lim : Int) (gs : List (Int × Int)) (st : List Int), as = [.d x, .d y] ∧ WellIs x lim gs ∧ gs.length ≤ 14 ∧ SeqIs y (ilD st) ∧ st.length = gs.length ∧ Q (.d (stD (scOf lim gs st))) []
/-- suffix_counts -/
def w_suffix_counts_g1 : TGd :=
  (gN 2)
def w_suffix_counts_e1 : TD :=
  (dCB sumK (aCons (aOf (dSl (aVar 1) (pSome (aVar 3)) (pSome (aOf (dOp addD (aOf (dOp ixD (aVar 2) (aOf (dUn negD (aOf (dC (.int 1))))))) (aOf (dC (.int 1)))))))) aNil))
def w_suffix_counts_j1 : TDs :=
  (iSeq (dVar 2))
def w_suffix_counts_h1 : TGd :=
  (gN 3)
def w_suffix_counts : TSd :=
  (sRet (dCB tupleK (aCons (aOf (dComp2 [2, 3] [3] (iSeq (dCallN 1 S_segments (aCons (aOf (dVar 0)) aNil))) w_suffix_counts_g1 tYesD w_suffix_counts_j1 w_suffix_counts_h1 tYesD w_suffix_counts_e1)) aNil)))
abbrev scRun (lim : Int) (gs : List (Int × Int)) (st : List Int) (k : Int) : Int := runS (cutB lim gs) (stAt st) k (gs.length - k).toNat
theorem sc_inner (x y : PyData) (lim : Int) (gs : List (Int × Int)) (st : List Int) (hg : gs.length ≤ 14) (hy : SeqIs y (ilD st)) (hs : st.length = gs.length) (a : Int) (m : Nat) (ha : 0 ≤ a) (hn : noCut (cutB lim gs) a m) (hm : a + m + 1 ≤ gs.length) (hc : a + m + 1 = gs.length ∨ cutB lim gs (a + m + 1) = true) (Q : List PyData → DSt → Prop) : ∀ (j : Nat) (k : Int) (acc : List Int) (s3 : Sl), a ≤ k → k + j = a + m + 1 → acc.length ≤ k →
    (∀ s3, Q (ilD (acc ++ (rngI k j).map (scRun lim gs st))) [.d x, .d y, .d (segD (rngI a (m + 1))), s3]) →
    compD [3] w_suffix_counts_h1 tYesD w_suffix_counts_e1 (ilD (rngI k j)) (ilD acc) [.d x, .d y, .d (segD (rngI a (m + 1))), s3] Q := by
  intro j
  induction j with
  | zero => intro k acc s3 _ _ _ q; simp only [rngI, List.map_nil, List.append_nil] at q; exact q s3
  | succ j ih =>
    intro k acc s3 h1 h2 h3 q
    have e0 : ilD (rngI k (j + 1)) = .int k :: ilD (rngI (k + 1) j) := rfl
    rw [e0, ev_compC]
    unfold w_suffix_counts_h1 w_suffix_counts_e1
    unfold segD
    walk_at "ee"
    rw [at_end]
    walk_at "ee"
    refine is_sl hy _ _ _ (fun r hr => ?_)
    rw [cut_in (by omega) (by omega) (by omega)] at hr
    walk_at "ee"
    refine is_sum hr _ ?_
    have el : (a + m + 1 - k).toNat = j + 1 := by omega
    rw [el, run_sum (c := cutB lim gs) (n := (gs.length : Int)) (e := a + m) (by omega) hm hc j k (by omega) (by omega) (fun i h h' => hn i (by omega) h')]
    walk_at "ee"
    refine ⟨by unfold ilD; rw [List.length_map]; omega, ?_⟩
    have := ih (k + 1) (acc ++ [scRun lim gs st k]) (.d (.int k)) (by omega) (by omega) (by simp only [List.length_append, List.length_cons, List.length_nil]; omega) (fun s3 => by
      have := q s3
      rw [rngI, List.map_cons] at this
      rw [List.append_assoc]
      exact this)
    unfold ilD at this ⊢
    rw [List.map_append] at this
    exact this
theorem sc_outer (x y : PyData) (lim : Int) (gs : List (Int × Int)) (st : List Int) (hg : gs.length ≤ 14) (hy : SeqIs y (ilD st)) (hs : st.length = gs.length) (Q : List PyData → DSt → Prop) : ∀ (a : Int) (ss : List (List Int)), SegOk (cutB lim gs) gs.length a ss → 0 ≤ a → ∀ (acc : List Int) (s2 s3 : Sl), acc.length = a →
    (∀ s2 s3, Q (ilD (acc ++ (rngI a (gs.length - a).toNat).map (scRun lim gs st))) [.d x, .d y, s2, s3]) →
    compD2 [2, 3] [3] w_suffix_counts_g1 tYesD w_suffix_counts_j1 w_suffix_counts_h1 tYesD w_suffix_counts_e1 (ss.map segD) (ilD acc) [.d x, .d y, s2, s3] Q := by
  intro a ss h
  induction h with
  | nil =>
    intro _ acc s2 s3 _ q
    have e : ((gs.length : Int) - gs.length).toNat = 0 := by omega
    rw [e] at q
    simp only [rngI, List.map_nil, List.append_nil] at q
    exact q s2 s3
  | cons hn hm hc _ ih =>
    rename_i a m ls _
    intro h0 acc s2 s3 hl q
    rw [List.map_cons, ev_c2C]
    unfold w_suffix_counts_g1 w_suffix_counts_j1
    walk_at "ee"
    rw [show segD (rngI a (m + 1)) = .list (ilD (rngI a (m + 1))) from rfl]
    walk_at "ee"
    refine sc_inner x y lim gs st hg hy hs a m h0 hn hm hc _ (m + 1) a acc _ (by omega) (by omega) (by omega) (fun s3 => ?_)
    walk_at "ee"
    refine ih (by omega) (acc ++ (rngI a (m + 1)).map (scRun lim gs st)) _ _ (by rw [List.length_append, List.length_map, rngI_len]; omega) (fun s2 s3 => ?_)
    have := q s2 s3
    have e : ((gs.length : Int) - a).toNat = (m + 1) + ((gs.length : Int) - (a + m + 1)).toNat := by omega
    rw [e, rngI_app, List.map_append, ← List.append_assoc] at this
    have e2 : a + ((m + 1 : Nat) : Int) = a + m + 1 := by omega
    rw [e2] at this
    exact this
theorem b_suffix_counts (as : List Ag) (m : Addr) (R : RXc) (Q : Rs → List (List PyData) → Prop) (hl : as.length = 2) (h : S_suffix_counts as R Q) : w_suffix_counts (dEnds as m Q noR) (dStart 4 as m) := by
  obtain ⟨x, y, lim, gs, st, rfl, hx, hg, hy, hs, q⟩ := h
  unfold w_suffix_counts
  walk_at "ee"
  refine ⟨x, lim, gs, rfl, hx, hg, fun ss hss => ?_⟩
  walk_at "ee"
  refine sc_outer x y lim gs st hg hy hs _ 0 ss hss (by omega) [] _ _ rfl (fun s2 s3 => ?_)
  rw [List.nil_append]
  walk_at "ee"
  exact q
def S_count_pairs : DSp := fun as R Q => ∃ (x y z : PyData) (lim : Int) (gs : List (Int × Int)) (st tt : List Int), as = [.d x, .d y, .d z] ∧ WellIs x lim gs ∧ gs.length ≤ 14 ∧ SeqIs y (ilD st) ∧ st.length = gs.length ∧ SeqIs z (ilD tt) ∧ tt.length = gs.length ∧ Q (.f (zipD (ilD (scOf lim gs st)) (ilD (scOf lim gs tt)))) []
/-- count_pairs -/
def w_count_pairs : TSd :=
  (sRet (dLZ (dCallN 2 S_suffix_counts (aCons (aOf (dVar 0)) (aCons (aOf (dVar 1)) aNil))) (dCallN 2 S_suffix_counts (aCons (aOf (dVar 0)) (aCons (aOf (dVar 2)) aNil)))))
theorem b_count_pairs (as : List Ag) (m : Addr) (R : RXc) (Q : Rs → List (List PyData) → Prop) (hl : as.length = 3) (h : S_count_pairs as R Q) : w_count_pairs (dEnds as m Q noR) (dStart 3 as m) := by
  obtain ⟨x, y, z, lim, gs, st, tt, rfl, hx, hg, hy, hs, hz, ht, q⟩ := h
  unfold w_count_pairs
  walk_at "ee"
  refine ⟨x, y, lim, gs, st, rfl, hx, hg, hy, hs, ?_⟩
  walk_at "ee"
  refine ⟨x, z, lim, gs, tt, rfl, hx, hg, hz, ht, ?_⟩
  unfold stD
  walk_at "ee"
  refine ⟨?_, q⟩
  rw [zipD_len]
  have e1 := scOf_len lim gs st
  unfold ilD
  rw [List.length_map]
  omega
/-- an obstruction at group k -/
def obsAt (lim : Int) (gs : List (Int × Int)) (st tt : List Int) (k : Int) : List PyData :=
  if scRun lim gs tt k < scRun lim gs st k then [.tuple [.str "fewer", .int k]]
  else if scRun lim gs st k < scRun lim gs tt k ∧ cutB lim gs k = true then [.tuple [.str "more", .int k]] else []
def obsL (lim : Int) (gs : List (Int × Int)) (st tt : List Int) : List PyData := (rngI 0 gs.length).flatMap (obsAt lim gs st tt)
def S_obstructions : DSp := fun as R Q => ∃ (x y z : PyData) (lim : Int) (gs : List (Int × Int)) (st tt : List Int), as = [.d x, .d y, .d z] ∧ WellIs x lim gs ∧ gs.length ≤ 14 ∧ SeqIs y (ilD st) ∧ st.length = gs.length ∧ SeqIs z (ilD tt) ∧ tt.length = gs.length ∧ Q (.d (.list (obsL lim gs st tt))) []
/-- _obstructions -/
def w_obstructions_g1 : TGd :=
  (gTupD 2 (gConsD (gN 4) (gConsD (gTupD 2 (gConsD (gN 5) (gConsD (gN 6) gNilD))) gNilD)))
def w_obstructions_b1 : TSd :=
  (sIf (dTest (dOp ltD (aVar 6) (aVar 5))) (sApp 3 (dTup (dCons (dC (.str "fewer")) (dCons (dVar 4) dNil)))) (sIf (dAnd (dTest (dOp gtD (aVar 6) (aVar 5))) (dTest (dCallN 2 S_starts_ungrounded (aCons (aOf (dVar 0)) (aCons (aOf (dVar 4)) aNil))))) (sApp 3 (dTup (dCons (dC (.str "more")) (dCons (dVar 4) dNil)))) sNext))
def w_obstructions : TSd :=
  (sSeq (sSet 3 (dLst dNil))
  (sSeq (sFor (iEnumD (dCallN 3 S_count_pairs (aCons (aOf (dVar 0)) (aCons (aOf (dVar 1)) (aCons (aOf (dVar 2)) aNil))))) w_obstructions_g1
  w_obstructions_b1)
  (sRet (dVar 3))))
theorem zip_rng (f g : Int → Int) : ∀ (n : Nat) (a : Int), zipD (ilD ((rngI a n).map f)) (ilD ((rngI a n).map g)) = (rngI a n).map fun k => .tuple [.int (f k), .int (g k)]
  | 0, _ => rfl
  | n + 1, a => by
    have := zip_rng f g n (a + 1)
    show zipD (.int (f a) :: ilD ((rngI (a + 1) n).map f)) (.int (g a) :: ilD ((rngI (a + 1) n).map g)) = _
    rw [zipD, this]; rfl
theorem enum_rng (f : Int → PyData) : ∀ (n : Nat) (a : Nat), enumD a ((rngI (a : Int) n).map f) = (rngI (a : Int) n).map fun k => .tuple [.int k, f k]
  | 0, _ => rfl
  | n + 1, a => by
    have := enum_rng f n (a + 1)
    rw [rngI, List.map_cons, enumD, List.map_cons]
    have e : ((a : Int) + 1) = ((a + 1 : Nat) : Int) := by omega
    rw [e, this]
theorem obsAt_len (lim : Int) (gs : List (Int × Int)) (st tt : List Int) (k : Int) : (obsAt lim gs st tt k).length ≤ 1 := by
  unfold obsAt
  split
  · exact Nat.le_refl _
  · split
    · exact Nat.le_refl _
    · exact Nat.zero_le _
theorem ob_loop (x y z : PyData) (lim : Int) (gs : List (Int × Int)) (st tt : List Int) (hx : WellIs x lim gs) (hg : gs.length ≤ 14) (D : DEnds) : ∀ (n : Nat) (k : Int) (acc : List PyData) (s4 s5 s6 : Sl), 0 ≤ k → k + n = gs.length → acc.length ≤ k →
    (∀ s4 s5 s6, D.nx [.d x, .d y, .d z, .o none (acc ++ (rngI k n).flatMap (obsAt lim gs st tt)), s4, s5, s6]) →
    forD w_obstructions_g1 w_obstructions_b1 D ((rngI k n).map fun k => .tuple [.int k, .tuple [.int (scRun lim gs st k), .int (scRun lim gs tt k)]]) [.d x, .d y, .d z, .o none acc, s4, s5, s6] := by
  intro n
  induction n with
  | zero => intro k acc s4 s5 s6 _ _ _ q; simp only [rngI, List.flatMap_nil, List.append_nil] at q; exact q _ _ _
  | succ n ih =>
    intro k acc s4 s5 s6 h0 h1 h2 q
    rw [rngI, List.map_cons, ev_forC]
    rw [rngI, List.flatMap_cons] at q
    unfold w_obstructions_g1 w_obstructions_b1
    walk_at "ee"
    unfold obsAt at q
    have nx := ih (k + 1)
    by_cases c1 : scRun lim gs tt k < scRun lim gs st k
    · rw [if_pos c1] at q
      rw [dT c1]
      walk_at "ee"
      refine ⟨by omega, ?_⟩
      exact nx (acc ++ [.tuple [.str "fewer", .int k]]) _ _ _ (by omega) (by omega) (by simp only [List.length_append, List.length_cons, List.length_nil]; omega) (fun s4 s5 s6 => by rw [List.append_assoc]; exact q s4 s5 s6)
    · rw [if_neg c1] at q
      rw [dF c1]
      walk_at "ee"
      by_cases c2 : scRun lim gs st k < scRun lim gs tt k
      · rw [dT c2]
        walk_at "ee"
        refine ⟨x, lim, gs, k, rfl, hx, h0, by omega, ?_⟩
        walk_at "ee"
        cases c3 : cutB lim gs k with
        | true =>
          rw [if_pos ⟨c2, c3⟩] at q
          walk_at "ee"
          refine ⟨by omega, ?_⟩
          exact nx (acc ++ [.tuple [.str "more", .int k]]) _ _ _ (by omega) (by omega) (by simp only [List.length_append, List.length_cons, List.length_nil]; omega) (fun s4 s5 s6 => by rw [List.append_assoc]; exact q s4 s5 s6)
        | false =>
          rw [if_neg (by rw [c3]; exact fun h => by cases h.2)] at q
          walk_at "ee"
          exact nx acc _ _ _ (by omega) (by omega) (by omega) q
      · rw [if_neg (fun h => c2 h.1)] at q
        rw [dF c2]
        walk_at "ee"
        exact nx acc _ _ _ (by omega) (by omega) (by omega) q
theorem b_obstructions (as : List Ag) (m : Addr) (R : RXc) (Q : Rs → List (List PyData) → Prop) (hl : as.length = 3) (h : S_obstructions as R Q) : w_obstructions (dEnds as m Q noR) (dStart 7 as m) := by
  obtain ⟨x, y, z, lim, gs, st, tt, rfl, hx, hg, hy, hs, hz, ht, q⟩ := h
  unfold w_obstructions
  walk_at "ee"
  refine ⟨x, y, z, lim, gs, st, tt, rfl, hx, hg, hy, hs, hz, ht, ?_⟩
  walk_at "ee"
  unfold scOf
  rw [zip_rng]
  have := enum_rng (fun k => .tuple [.int (scRun lim gs st k), .int (scRun lim gs tt k)]) gs.length 0
  rw [show ((0 : Nat) : Int) = 0 from rfl] at this
  rw [this]
  refine ob_loop x y z lim gs st tt hx hg _ gs.length 0 [] _ _ _ (by omega) (by omega) (by simp) (fun s4 s5 s6 => ?_)
  rw [List.nil_append]
  walk_at "ee"
  exact q
def obsF (lim : Int) (gs : List (Int × Int)) (st tt : List Int) : PyData := match obsL lim gs st tt with
  | [] => .none
  | o :: _ => o
def S_obstruction : DSp := fun as R Q => ∃ (x y z : PyData) (lim : Int) (gs : List (Int × Int)) (st tt : List Int), as = [.d x, .d y, .d z] ∧ WellIs x lim gs ∧ gs.length ≤ 14 ∧ SeqIs y (ilD st) ∧ st.length = gs.length ∧ SeqIs z (ilD tt) ∧ tt.length = gs.length ∧ Q (.d (obsF lim gs st tt)) []
/-- obstruction -/
def w_obstruction : TSd :=
  (sSeq (sSet 3 (dCallN 3 S_obstructions (aCons (aOf (dVar 0)) (aCons (aOf (dVar 1)) (aCons (aOf (dVar 2)) aNil)))))
  (sRet (dIf (dTru (dVar 3)) (dOp ixD (aVar 3) (aOf (dC (.int 0)))) (dC .none))))
theorem b_obstruction (as : List Ag) (m : Addr) (R : RXc) (Q : Rs → List (List PyData) → Prop) (hl : as.length = 3) (h : S_obstruction as R Q) : w_obstruction (dEnds as m Q noR) (dStart 4 as m) := by
  obtain ⟨x, y, z, lim, gs, st, tt, rfl, hx, hg, hy, hs, hz, ht, q⟩ := h
  unfold w_obstruction
  walk_at "ee"
  refine ⟨x, y, z, lim, gs, st, tt, rfl, hx, hg, hy, hs, hz, ht, ?_⟩
  walk_at "ee"
  unfold obsF at q
  cases e : obsL lim gs st tt with
  | nil =>
    rw [e] at q
    simp only [List.isEmpty_nil, Bool.not_true]
    walk_at "ee"
    exact q
  | cons o os =>
    rw [e] at q
    simp only [List.isEmpty_cons, Bool.not_false]
    walk_at "ee"
    exact q
def S_is_reachable : DSp := fun as R Q => ∃ (x y z : PyData) (lim : Int) (gs : List (Int × Int)) (st tt : List Int), as = [.d x, .d y, .d z] ∧ WellIs x lim gs ∧ gs.length ≤ 14 ∧ SeqIs y (ilD st) ∧ st.length = gs.length ∧ SeqIs z (ilD tt) ∧ tt.length = gs.length ∧ Q (.d (.bool (PyData.isNone (obsF lim gs st tt)))) []
/-- is_reachable -/
def w_is_reachable : TSd :=
  (sRet (dOp isND (aOf (dCallN 3 S_obstruction (aCons (aOf (dVar 0)) (aCons (aOf (dVar 1)) (aCons (aOf (dVar 2)) aNil))))) (aOf (dC .none))))
theorem b_is_reachable (as : List Ag) (m : Addr) (R : RXc) (Q : Rs → List (List PyData) → Prop) (hl : as.length = 3) (h : S_is_reachable as R Q) : w_is_reachable (dEnds as m Q noR) (dStart 3 as m) := by
  obtain ⟨x, y, z, lim, gs, st, tt, rfl, hx, hg, hy, hs, hz, ht, q⟩ := h
  unfold w_is_reachable
  walk_at "ee"
  refine ⟨x, y, z, lim, gs, st, tt, rfl, hx, hg, hy, hs, hz, ht, ?_⟩
  walk_at "ee"
  exact q
end LW

namespace LW
open PySem L2 DL
local macro_rules | `(tactic| walk_at "ee") => `(tactic| simp only [↓asB_b, ↓with1_s, ↓with2_s, ↓asI_s, ↓withL_s, ↓withA_s, ↓putI_s, ↓subI_s, ↓as2I_s, ↓appV_s, ↓isO_o, ↓ev_var, ↓ev_vd, ↓ev_vo, ↓ev_c, ↓ev_avar, ↓ev_ad, ↓ev_ao, ↓ev_kz, ↓ev_of, ↓ev_kof, ↓ev_op, ↓ev_op1, ↓ev_op2, ↓ev_op3, ↓ev_un, ↓ev_un1, ↓ev_un2, ↓ev_test, ↓ev_ktest, ↓ev_and, ↓ev_kandT, ↓ev_kandF, ↓ev_or, ↓ev_korT, ↓ev_korF, ↓ev_not, ↓ev_knot, ↓ev_andV, ↓ev_kandV, ↓ev_kandVT, ↓ev_kandVF, ↓ev_orV, ↓ev_korV, ↓ev_korVT, ↓ev_korVF, ↓ev_notV, ↓ev_knotV, ↓ev_knotV2, ↓ev_ifE, ↓ev_kifET, ↓ev_kifEF, ↓ev_chain, ↓ev_ch1, ↓ev_ch2, ↓ev_ch2b, ↓ev_ch3, ↓ev_ch4T, ↓ev_ch4F, ↓ev_ch5, ↓ev_ch6, ↓ev_nil, ↓ev_cons, ↓ev_kcons, ↓ev_kcons2, ↓ev_lst, ↓ev_klst, ↓ev_tup, ↓ev_ktup, ↓ev_rnil, ↓ev_rcons, ↓ev_krcons, ↓ev_krcons2, ↓ev_anil, ↓ev_acons, ↓ev_kacons, ↓ev_kacons2, ↓ev_pnone, ↓ev_psome, ↓ev_kp, ↓ev_kp2, ↓ev_sl, ↓ev_sl1, ↓ev_sl2, ↓ev_sl3, ↓ev_sl4, ↓ev_slL, ↓ev_slT, ↓ev_cb, ↓ev_kcb, ↓ev_kcb2, ↓ev_isi, ↓ev_kisi, ↓ev_kisi2, ↓ev_call, ↓ev_kcall, ↓ev_callK, ↓ev_kcallK, ↓ev_kq, ↓ev_comp, ↓ev_kcomp, ↓ev_kcompE, ↓ev_compN, ↓ev_compC, ↓ev_kc1, ↓ev_kc2T, ↓ev_kc2F, ↓ev_kc3, ↓ev_yes, ↓ev_gn, ↓ev_gnil, ↓ev_gcons, ↓ev_kg, ↓ev_gtup, ↓ev_seqT, ↓ev_seqL, ↓ev_sub, ↓ev_ksub, ↓ev_iseq, ↓ev_kiseq, ↓ev_seqVL, ↓ev_seqVT, ↓ev_kqd, ↓ev_rg1, ↓ev_krg1, ↓ev_krg1b, ↓ev_rg2, ↓ev_krg2, ↓ev_krg2b, ↓ev_krg2c, ↓ev_en, ↓ev_ken, ↓ev_enL, ↓ev_zp, ↓ev_kzp, ↓ev_kzp2, ↓ev_zpL, ↓ev_zpT, ↓ev_zpLT, ↓ev_zpTL, ↓ev_snext, ↓ev_sseq, ↓ev_knx, ↓nx_set, ↓rt_set, ↓bk_set, ↓ct_set, ↓ex_set, ↓nx_for, ↓rt_for, ↓bk_for, ↓ct_for, ↓ex_for, ↓nx_end, ↓rt_end, ↓ex_end, ↓ev_sbrk, ↓ev_scont, ↓ev_sdrop, ↓ev_kdrop, ↓ev_sret, ↓ev_sretN, ↓ev_sif, ↓ev_kifT, ↓ev_kifF, ↓ev_sset, ↓ev_kset, ↓ev_sasg, ↓ev_kasg, ↓ev_saug, ↓ev_kaug, ↓ev_kaug2, ↓ev_kaug3, ↓ev_sapp, ↓ev_kapp, ↓ev_spar, ↓ev_kpar, ↓ev_sfor, ↓ev_kfori, ↓ev_forN, ↓ev_forC, ↓ev_kfor, ↓o_addI, ↓o_addL, ↓o_addT, ↓o_addS, ↓o_sub, ↓o_iadd, ↓o_mod, ↓o_fdiv, ↓o_pow, ↓o_mulI, ↓o_mulL, ↓o_mulT, ↓o_lt, ↓o_le, ↓o_gt, ↓o_ge, ↓o_isB, ↓o_notB, ↓o_isN, ↓o_notN, ↓n_none, ↓n_int, ↓n_bool, ↓n_str, ↓n_list, ↓n_tup, ↓o_neg, ↓o_rev, ↓ixV_s, ↓o_ixL, ↓o_ixT, ↓c_abs, ↓c_intI, ↓c_intB, ↓c_lenL, ↓c_lenT, ↓c_max2, ↓c_min2, ↓c_listL, ↓c_listT, ↓c_tupL, ↓c_tupT, ↓c_divmod, ↓c_str, ↓c_sum1, ↓c_sumT1, ↓c_max1, ↓c_min1, ↓c_all1, ↓c_any1, ↓g_0, ↓g_s, ↓s_0, ↓s_s, ↓v_un, ↓v_d, ↓v_o, ↓res_x, ↓res_v, ↓val_d, ↓val_f, ↓sl_d, ↓sl_f, ↓ag_d, ↓ag_o, ↓cons?_s, ↓ra_nil, ↓cons2?_s, ↓ra_cons, ↓ag_nil, ↓ag_x, ↓agV_s, ↓ag_v, ↓nr_nil, ↓nr_x, ↓nrV_d, ↓nrV_o, ↓nr_v, ↓vx_nil, ↓vx_x, ↓vx_v, ↓putV_o, ↓pb_0, ↓pb_1, ↓pl_nil, ↓pl_0, ↓pl_1, ↓pl_2, ↓pl_3, ↓rd_0, ↓bx_nil, ↓bx_d, ↓bx_o, ↓rd_o, ↓kd_un, ↓kd_d, ↓sa_nil, ↓sa_cons, ↓wp_nil, ↓wp_cons, ↓rs_nil, ↓rs_cons, ↓ev_lc2, ↓ev_klc2, ↓ev_c2N, ↓ev_c2C, ↓ev_k21, ↓ev_k22T, ↓ev_k22F, ↓ev_k23, ↓ev_k24, ↓c_repr, ↓c_sort, ↓ev_callP, ↓ev_peek, ↓ev_peek2, ↓ev_scal, ↓ev_callF, ↓ev_knew, ↓ev_kdat, ↓c_listS, ↓c_tupS, ↓c_lenS, ↓o_well0, ↓o_well1, ↓seqT_g, ↓o_grp0, ↓o_grp1, ↓seqT_m, ↓o_mv0, ↓o_mv1, ↓o_st, ↓ev_lz, ↓ev_klz, ↓ev_klz2, ↓ev_klz3, ↓ev_tru, ↓ev_ktruB, ↓ev_ktruL, ↓ev_ktruF, ↓ev_nest, ↓ev_knest, Rs.val, Rs.sl, Ag.sl, Opd.res, Sl.val, Sl.keepD, isD_n, isD_b, isD_i, isD_s, isD_l, isD_t, eq_self, eqD_int, neD_int, eqD_ll, neD_ll, eqD_tt, neD_tt, eqD_bb, neD_bb, eqD_ss, neD_ss, atI_0, atI_1, atI_2, atI_3, ixN_1_0, ixN_2_0, ixN_2_1, ixN_3_0, ixN_3_1, ixN_3_2, ixN_4_0, ixN_4_1, ixN_4_2, ixN_4_3, dStart, repUn, tYesD, List.map_cons, List.map_nil, List.cons_append, List.nil_append, List.length_cons, List.length_nil, true_and, and_true, ne_eq, not_false_eq_true, reduceCtorEq, Option.some.injEq, Option.map_none, Option.map_some, Nat.reduceAdd, Nat.reduceSub, Nat.reduceLT, Nat.reduceLeDiff, Nat.zero_lt_succ, Nat.le_refl, Bool.not_true, Bool.not_false, decide_true, decide_false, Int.reduceLE, Int.reduceLT, Int.reduceEq, Int.toNat_zero, Int.reduceToNat, Int.reducePow, Int.reduceNeg, Int.toNat_one, List.set_cons_zero, List.set_cons_succ, List.not_mem_nil, List.mem_cons, false_or, or_false, forall_eq, forall_eq_or_imp, if_true, if_false, ite_true, ite_false, Bool.false_eq_true, forall_const, implies_true, false_implies])
/-! ### the law's own segments, suffix counts, obstructions -/
def fstN (c : Int → Bool) : Nat → Int
  | 0 => 0
  | n + 1 => if c ((n + 1 : Nat) : Int) = true then ((n + 1 : Nat) : Int) else fstN c n
abbrev fstI (c : Int → Bool) (k : Int) : Int := fstN c k.toNat
theorem fst_le (c : Int → Bool) : ∀ n : Nat, 0 ≤ fstN c n ∧ fstN c n ≤ n
  | 0 => ⟨Int.le_refl _, Int.le_refl _⟩
  | n + 1 => by
    have := fst_le c n
    unfold fstN
    split <;> omega
theorem fst_ge (c : Int → Bool) (a : Nat) (h : c a = true) (ha : 0 < a) : ∀ n : Nat, a ≤ n → (a : Int) ≤ fstN c n := by
  intro n
  induction n with
  | zero => intro h; omega
  | succ n ih =>
    intro hn
    unfold fstN
    by_cases e : a = n + 1
    · subst e; rw [if_pos h]; omega
    · have := ih (by omega)
      split <;> omega
def S_law_segment_starts : DSp := fun as R Q => ∃ (lim : Int) (gs : List (Int × Int)), as = [.d (wellD lim gs)] ∧ gs.length ≤ 14 ∧ Q (.d (.list (ilD ((rngI 0 gs.length).map (fstI (cutB lim gs)))))) []
/-- _law_segment_starts -/
def w_law_segment_starts_g1 : TGd :=
  (gN 2)
def w_law_segment_starts_b1 : TSd :=
  (sSeq (sSet 3 (dOrV (dOp eqD (aVar 2) (aOf (dC (.int 0)))) (dOp gtD (aOf (dOp subD (aOf (dCallN 2 S_law_weight (aCons (aOf (dVar 0)) (aCons (aOf (dVar 2)) aNil)))) (aOf (dCallN 2 S_law_weight (aCons (aOf (dVar 0)) (aCons (aOf (dOp subD (aVar 2) (aOf (dC (.int 1))))) aNil)))))) (aOf (dOp ixD (aVar 0) (aOf (dC (.int 0))))))))
  (sApp 1 (dIf (dTest (dVar 3)) (dVar 2) (dOp ixD (aVar 1) (aOf (dUn negD (aOf (dC (.int 1)))))))))
def w_law_segment_starts : TSd :=
  (sSeq (sSet 1 (dLst dNil))
  (sSeq (sFor (iRange1 (aOf (dCB lenK (aCons (aOf (dOp ixD (aVar 0) (aOf (dC (.int 1))))) aNil)))) w_law_segment_starts_g1
  w_law_segment_starts_b1)
  (sRet (dVar 1))))
theorem at_neg1 (f : Int → Int) (n : Nat) (a : Int) : atI (ilD ((rngI a (n + 1)).map f)) (-1) = some (.int (f (a + n))) := by
  rw [rngI_snoc, List.map_append]
  unfold ilD atI ixN
  have e1 : ((List.map PyData.int (List.map f (rngI a n) ++ List.map f [a + ↑n])).length : Nat) = n + 1 := by
    rw [List.length_map, List.length_append, List.length_map, rngI_len]; rfl
  rw [e1, if_neg (by decide), if_pos (by omega)]
  have e2 : (-1 + ((n + 1 : Nat) : Int)).toNat = n := by omega
  show (List.map PyData.int (List.map f (rngI a n) ++ List.map f [a + ↑n]))[(-1 + ((n + 1 : Nat) : Int)).toNat]? = _
  rw [e2, List.map_append, List.getElem?_append_right (by rw [List.length_map, List.length_map, rngI_len]; exact Nat.le_refl _)]
  rw [List.length_map, List.length_map, rngI_len, Nat.sub_self]
  rfl
theorem ss_loop (lim : Int) (gs : List (Int × Int)) (hg : gs.length ≤ 14) (D : DEnds) : ∀ (n k : Nat) (s2 s3 : Sl), k + n = gs.length →
    (∀ s2 s3, D.nx [.d (wellD lim gs), .o none (ilD ((rngI 0 gs.length).map (fstI (cutB lim gs)))), s2, s3]) →
    forD w_law_segment_starts_g1 w_law_segment_starts_b1 D (rangeD (k : Int) n) [.d (wellD lim gs), .o none (ilD ((rngI 0 k).map (fstI (cutB lim gs)))), s2, s3] := by
  intro n
  induction n with
  | zero =>
    intro k s2 s3 h q
    have e : k = gs.length := by omega
    rw [e]; exact q s2 s3
  | succ n ih =>
    intro k s2 s3 h q
    have nx := ih (k + 1)
    have el : (ilD ((rngI 0 k).map (fstI (cutB lim gs)))).length = k := by unfold ilD; rw [List.length_map, List.length_map, rngI_len]
    have fin : ∀ z : Int, z = fstI (cutB lim gs) (k : Int) → ilD ((rngI 0 k).map (fstI (cutB lim gs))) ++ [.int z] = ilD ((rngI 0 (k + 1)).map (fstI (cutB lim gs))) := fun z hz => by
      rw [rngI_snoc, List.map_append, hz]
      unfold ilD
      rw [List.map_append]
      simp
    rw [rangeD, ev_forC]
    unfold w_law_segment_starts_g1 w_law_segment_starts_b1
    walk_at "ee"
    have ek : ((k : Int) + 1) = ((k + 1 : Nat) : Int) := by omega
    by_cases c : (k : Int) = 0
    · rw [dT c]
      walk_at "ee"
      rw [el]
      refine ⟨by omega, ?_⟩
      rw [fin _ (by rw [c]; rfl), ek]
      exact nx _ _ (by omega) q
    · rw [dF c]
      obtain ⟨k', rfl⟩ : ∃ k', k = k' + 1 := ⟨k - 1, by omega⟩
      walk_at "ee"
      refine ⟨_, lim, gs, ((k' + 1 : Nat) : Int), rfl, wellD_is lim gs, by omega, ?_⟩
      walk_at "ee"
      refine ⟨_, lim, gs, ((k' + 1 : Nat) : Int) - 1, rfl, wellD_is lim gs, by omega, ?_⟩
      unfold wellD
      walk_at "ee"
      have ec : decide (lim < wtOf gs ((k' + 1 : Nat) : Int) - wtOf gs (((k' + 1 : Nat) : Int) - 1)) = cutB lim gs ((k' + 1 : Nat) : Int) := rfl
      rw [ec]
      have ef : fstI (cutB lim gs) ((k' + 1 : Nat) : Int) = if cutB lim gs ((k' + 1 : Nat) : Int) = true then ((k' + 1 : Nat) : Int) else fstI (cutB lim gs) (k' : Int) := by
        unfold fstI
        rw [Int.toNat_natCast, Int.toNat_natCast, fstN]
      cases c3 : cutB lim gs ((k' + 1 : Nat) : Int) with
      | true =>
        rw [c3, if_pos rfl] at ef
        walk_at "ee"
        rw [el]
        refine ⟨by omega, ?_⟩
        rw [fin _ ef.symm, ek]
        exact nx _ _ (by omega) q
      | false =>
        rw [c3, if_neg (by decide)] at ef
        walk_at "ee"
        rw [at_neg1]
        walk_at "ee"
        rw [el]
        refine ⟨by omega, ?_⟩
        rw [fin _ (by rw [ef, Int.zero_add]), ek]
        exact nx _ _ (by omega) q
theorem b_law_segment_starts (as : List Ag) (m : Addr) (R : RXc) (Q : Rs → List (List PyData) → Prop) (hl : as.length = 1) (h : S_law_segment_starts as R Q) : w_law_segment_starts (dEnds as m Q noR) (dStart 4 as m) := by
  obtain ⟨lim, gs, rfl, hg, q⟩ := h
  unfold w_law_segment_starts
  rw [show wellD lim gs = .tuple [.int lim, .tuple (gs.map grpD)] from rfl]
  walk_at "ee"
  rw [List.length_map]
  refine ⟨by unfold okRg; omega, ?_⟩
  refine ss_loop lim gs hg _ gs.length 0 _ _ (by omega) (fun s2 s3 => ?_)
  walk_at "ee"
  exact q
def S_law_suffix_counts : DSp := fun as R Q => ∃ (lim : Int) (gs : List (Int × Int)) (st : List Int), as = [.d (wellD lim gs), .d (stD st)] ∧ gs.length ≤ 14 ∧ st.length = gs.length ∧ Q (.d (stD (scOf lim gs st))) []
/-- _law_suffix_counts -/
def w_law_suffix_counts_g1 : TGd :=
  (gTupD 2 (gConsD (gN 4) (gConsD (gN 5) gNilD)))
def w_law_suffix_counts_t1 : TTd :=
  (dTest (dOp eqD (aVar 4) (aOf (dOp ixD (aVar 2) (aVar 3)))))
def w_law_suffix_counts_e1 : TD :=
  (dVar 5)
def w_law_suffix_counts_g2 : TGd :=
  (gN 3)
def w_law_suffix_counts_e2 : TD :=
  (dCB sumK (aCons (aOf (dComp [4, 5] (iZipD (dSl (aVar 2) (pSome (aVar 3)) pNone) (dSl (aVar 1) (pSome (aVar 3)) pNone)) w_law_suffix_counts_g1 w_law_suffix_counts_t1 w_law_suffix_counts_e1)) aNil))
def w_law_suffix_counts : TSd :=
  (sSeq (sSet 2 (dCallN 1 S_law_segment_starts (aCons (aOf (dVar 0)) aNil)))
  (sRet (dCB tupleK (aCons (aOf (dComp [3] (iRange1 (aOf (dCB lenK (aCons (aVar 1) aNil)))) w_law_suffix_counts_g2 tYesD w_law_suffix_counts_e2)) aNil))))
theorem map_stAt : ∀ (st : List Int), (rngI 0 st.length).map (stAt st) = st := fun st => by
  refine List.ext_getElem? fun i => ?_
  rw [List.getElem?_map]
  by_cases h : i < st.length
  · rw [rngI_get _ _ _ h, Option.map_some]
    unfold stAt
    have e : ((0 : Int) + (i : Int)).toNat = i := by omega
    rw [e, List.getElem?_eq_getElem h]; rfl
  · rw [List.getElem?_eq_none (by rw [rngI_len]; omega), List.getElem?_eq_none (by omega)]; rfl
theorem drop_rng (f : Int → Int) (n k : Nat) (h : k ≤ n) : ((rngI 0 n).map f).drop k = (rngI (k : Int) (n - k)).map f := by
  have e : n = k + (n - k) := by omega
  have e2 : rngI 0 n = rngI 0 k ++ rngI (k : Int) (n - k) := by
    have := rngI_app k (n - k) 0
    rw [← e, Int.zero_add] at this
    exact this
  rw [e2, List.map_append, List.drop_left' (by rw [List.length_map, rngI_len])]
theorem cut_from (ns : List Int) (k : Nat) (h : k ≤ ns.length) : cutD (ilD ns) (some (k : Int)) none = ilD (ns.drop k) := by
  rw [cut_ints, sIx_i (by omega)]
  show ilD (List.take (ns.length - min (k : Int).toNat ns.length) (List.drop (min (k : Int).toNat ns.length) ns)) = _
  have e : min (k : Int).toNat ns.length = k := by omega
  rw [e, List.take_of_length_le (by rw [List.length_drop]; exact Nat.le_refl _)]
theorem lc_after (s0 s1 s2 s3 : Sl) (F : List PyData) (fk k : Int) (f g : Int → Int) (e2 : s2 = .d (.list F)) (e3 : s3 = .d (.int k)) (hF : atI F k = some (.int fk)) (Q : List PyData → DSt → Prop) : ∀ (m : Nat) (j : Int) (acc : List PyData) (s4 s5 : Sl), (∀ i, j ≤ i → i < j + m → f i ≠ fk) →
    (∀ s4 s5, Q acc [s0, s1, s2, s3, s4, s5]) →
    compD [4, 5] w_law_suffix_counts_g1 w_law_suffix_counts_t1 w_law_suffix_counts_e1 ((rngI j m).map fun i => .tuple [.int (f i), .int (g i)]) acc [s0, s1, s2, s3, s4, s5] Q := by
  subst e2 e3
  intro m
  induction m with
  | zero => intro j acc s4 s5 _ q; exact q s4 s5
  | succ m ih =>
    intro j acc s4 s5 hf q
    rw [rngI, List.map_cons, ev_compC]
    unfold w_law_suffix_counts_g1 w_law_suffix_counts_t1
    walk_at "ee"
    rw [hF]
    walk_at "ee"
    rw [dF (hf j (by omega) (by omega))]
    walk_at "ee"
    exact ih (j + 1) acc _ _ (fun i h h' => hf i (by omega) (by omega)) q
theorem lc_in (s0 s1 s2 s3 : Sl) (F : List PyData) (c : Int → Bool) (k : Int) (g : Int → Int) (n : Int) (hn : n ≤ 1000) (k0 : 0 ≤ k) (e2 : s2 = .d (.list F)) (e3 : s3 = .d (.int k)) (hF : atI F k = some (.int (fstI c k))) (Q : List PyData → DSt → Prop) : ∀ (m : Nat) (j : Int) (acc : List Int) (s4 s5 : Sl), k ≤ j → j + m = n → acc.length ≤ j → fstI c j = fstI c k →
    (∀ ns s4 s5, ns.sum = runS c g j m → Q (ilD (acc ++ ns)) [s0, s1, s2, s3, s4, s5]) →
    compD [4, 5] w_law_suffix_counts_g1 w_law_suffix_counts_t1 w_law_suffix_counts_e1 ((rngI j m).map fun i => .tuple [.int (fstI c i), .int (g i)]) (ilD acc) [s0, s1, s2, s3, s4, s5] Q := by
  subst e2 e3
  intro m
  induction m with
  | zero =>
    intro j acc s4 s5 _ _ _ _ q
    have := q [] s4 s5 rfl
    rw [List.append_nil] at this
    exact this
  | succ m ih =>
    intro j acc s4 s5 h1 h2 h3 hf q
    rw [rngI, List.map_cons, ev_compC]
    unfold w_law_suffix_counts_g1 w_law_suffix_counts_t1
    walk_at "ee"
    rw [hF]
    walk_at "ee"
    rw [dT hf]
    unfold w_law_suffix_counts_e1
    walk_at "ee"
    refine ⟨by unfold ilD; rw [List.length_map]; omega, ?_⟩
    have el : ilD acc ++ [.int (g j)] = ilD (acc ++ [g j]) := by unfold ilD; rw [List.map_append]; rfl
    rw [el]
    cases hc : c (j + 1) with
    | true =>
      refine lc_after _ _ _ _ F (fstI c k) k (fstI c) g rfl rfl hF Q m (j + 1) _ _ _ (fun i hi hi' => ?_) (fun s4 s5 => ?_)
      · have e1 : (((j + 1).toNat : Nat) : Int) = j + 1 := by omega
        have ge := fst_ge c (j + 1).toNat (by rw [e1]; exact hc) (by omega) i.toNat (by omega)
        have le := (fst_le c k.toNat).2
        show fstN c i.toNat ≠ fstN c k.toNat
        omega
      · refine q [g j] s4 s5 ?_
        rw [runS, hc]; simp
    | false =>
      have e1 : (j + 1).toNat = j.toNat + 1 := by omega
      have e4 : ((j.toNat + 1 : Nat) : Int) = j + 1 := by omega
      refine ih (j + 1) (acc ++ [g j]) _ _ (by omega) (by omega) (by simp only [List.length_append, List.length_cons, List.length_nil]; omega) ?_ (fun ns s4 s5 hs => ?_)
      · show fstN c (j + 1).toNat = _
        rw [e1, fstN, e4, hc, if_neg (by decide)]
        exact hf
      · rw [List.append_assoc]
        refine q (g j :: ns) s4 s5 ?_
        rw [runS, hc, List.sum_cons, hs]; simp
theorem lsc_loop (lim : Int) (gs : List (Int × Int)) (st : List Int) (hg : gs.length ≤ 14) (hs : st.length = gs.length) (Q : List PyData → DSt → Prop) : ∀ (n k : Nat) (acc : List Int) (s3 : Sl), k + n = gs.length → acc.length = k →
    (∀ s3, Q (ilD (acc ++ (rngI (k : Int) n).map (scRun lim gs st))) [.d (wellD lim gs), .d (stD st), .d (.list (ilD ((rngI 0 gs.length).map (fstI (cutB lim gs))))), s3, .un, .un]) →
    compD [3] w_law_suffix_counts_g2 tYesD w_law_suffix_counts_e2 (rangeD (k : Int) n) (ilD acc) [.d (wellD lim gs), .d (stD st), .d (.list (ilD ((rngI 0 gs.length).map (fstI (cutB lim gs))))), s3, .un, .un] Q := by
  intro n
  induction n with
  | zero => intro k acc s3 _ _ q; simp only [rngI, List.map_nil, List.append_nil] at q; exact q _
  | succ n ih =>
    intro k acc s3 h1 h2 q
    rw [rangeD, ev_compC]
    unfold w_law_suffix_counts_g2 w_law_suffix_counts_e2
    have lF : ((rngI 0 gs.length).map (fstI (cutB lim gs))).length = gs.length := by rw [List.length_map, rngI_len]
    unfold stD
    walk_at "ee"
    rw [cut_from _ k (by rw [lF]; omega), cut_from st k (by omega), drop_rng _ _ _ (by omega)]
    have e1 : st.drop k = (rngI (k : Int) (gs.length - k)).map (stAt st) := by
      rw [← drop_rng (stAt st) gs.length k (by omega), ← hs, map_stAt]
    rw [e1, zip_rng]
    have eat : atI (ilD ((rngI 0 gs.length).map (fstI (cutB lim gs)))) (k : Int) = some (.int (fstI (cutB lim gs) (k : Int))) := by
      unfold ilD
      rw [atI_map, atI_in _ _ (by omega) (by rw [lF]; omega), List.getElem?_map, Int.toNat_natCast, rngI_get _ _ _ (by omega)]
      simp
    refine lc_in _ _ _ _ _ (cutB lim gs) (k : Int) (stAt st) (gs.length : Int) (by omega) (by omega) rfl rfl eat _ (gs.length - k) (k : Int) [] _ _ (by omega) (by omega) (by simp) rfl (fun ns s4' s5' hsum => ?_)
    rw [List.nil_append]
    walk_at "ee"
    refine ⟨ns, rfl, ?_⟩
    refine ⟨by unfold ilD; rw [List.length_map]; omega, ?_⟩
    have es : scRun lim gs st (k : Int) = ns.sum := by
      rw [hsum]
      show runS _ _ _ ((gs.length : Int) - (k : Int)).toNat = _
      congr 1; omega
    have ek : ((k : Int) + 1) = ((k + 1 : Nat) : Int) := by omega
    rw [rngI, List.map_cons, es, ek] at q
    have := ih (k + 1) (acc ++ [ns.sum]) (.d (.int k)) (by omega) (by simp only [List.length_append, List.length_cons, List.length_nil]; omega) (fun s3 => by rw [List.append_assoc]; exact q s3)
    rw [ek]
    unfold ilD at this ⊢
    rw [List.map_append] at this
    exact this
theorem b_law_suffix_counts (as : List Ag) (m : Addr) (R : RXc) (Q : Rs → List (List PyData) → Prop) (hl : as.length = 2) (h : S_law_suffix_counts as R Q) : w_law_suffix_counts (dEnds as m Q noR) (dStart 6 as m) := by
  obtain ⟨lim, gs, st, rfl, hg, hs, q⟩ := h
  unfold w_law_suffix_counts
  walk_at "ee"
  refine ⟨lim, gs, rfl, hg, ?_⟩
  unfold stD
  walk_at "ee"
  have el : (ilD st).length = gs.length := by unfold ilD; rw [List.length_map]; exact hs
  rw [el]
  refine ⟨by unfold okRg; omega, ?_⟩
  refine lsc_loop lim gs st hg hs _ gs.length 0 [] _ (by omega) rfl (fun s3 => ?_)
  rw [List.nil_append]
  walk_at "ee"
  exact q
def S_law_obstruction : DSp := fun as R Q => ∃ (lim : Int) (gs : List (Int × Int)) (st tt : List Int), as = [.d (wellD lim gs), .d (stD st), .d (stD tt)] ∧ 1 ≤ gs.length ∧ gs.length ≤ 14 ∧ st.length = gs.length ∧ tt.length = gs.length ∧ Q (.d (obsF lim gs st tt)) []
/-- _law_obstruction -/
def w_law_obstruction_g1 : TGd :=
  (gN 6)
def w_law_obstruction_b1 : TSd :=
  (sSeq (sIf (dTest (dOp ltD (aOf (dOp ixD (aVar 5) (aVar 6))) (aOf (dOp ixD (aVar 4) (aVar 6))))) (sRet (dTup (dCons (dC (.str "fewer")) (dCons (dVar 6) dNil)))) sNext)
  (sIf (dAnd (dTest (dOp gtD (aOf (dOp ixD (aVar 5) (aVar 6))) (aOf (dOp ixD (aVar 4) (aVar 6))))) (dAnd (dTest (dOp eqD (aOf (dOp ixD (aVar 3) (aVar 6))) (aVar 6))) (dOr (dTest (dOp gtD (aVar 6) (aOf (dC (.int 0))))) (dTest (dOp gtD (aOf (dCallN 2 S_law_weight (aCons (aOf (dVar 0)) (aCons (aOf (dC (.int 0))) aNil)))) (aOf (dOp ixD (aVar 0) (aOf (dC (.int 0)))))))))) (sRet (dTup (dCons (dC (.str "more")) (dCons (dVar 6) dNil)))) sNext))
def w_law_obstruction : TSd :=
  (sSeq (sPar [3, 4, 5] (rCons (dCallN 1 S_law_segment_starts (aCons (aOf (dVar 0)) aNil)) (rCons (dCallN 2 S_law_suffix_counts (aCons (aOf (dVar 0)) (aCons (aOf (dVar 1)) aNil))) (rCons (dCallN 2 S_law_suffix_counts (aCons (aOf (dVar 0)) (aCons (aOf (dVar 2)) aNil))) rNil))))
  (sSeq (sFor (iRange1 (aOf (dCB lenK (aCons (aVar 1) aNil)))) w_law_obstruction_g1
  w_law_obstruction_b1)
  (sRet (dC .none))))
theorem at_rng (f : Int → Int) (n : Nat) (k : Int) (h0 : 0 ≤ k) (h1 : k < n) : atI (ilD ((rngI 0 n).map f)) k = some (.int (f k)) := by
  unfold ilD
  rw [atI_map, atI_in _ _ h0 (by rw [List.length_map, rngI_len]; omega), List.getElem?_map, rngI_get _ _ _ (by omega)]
  have e : (0 : Int) + ((k.toNat : Nat) : Int) = k := by omega
  rw [e]; rfl
theorem fst_self (c : Int → Bool) (k : Int) (h0 : 0 ≤ k) : decide (fstI c k = k) = (decide (k = 0) || c k) := by
  by_cases e : k = 0
  · subst e; simp [fstI, fstN]
  · have e1 : k.toNat = (k.toNat - 1) + 1 := by omega
    have e2 : (((k.toNat - 1) + 1 : Nat) : Int) = k := by omega
    unfold fstI
    rw [e1, fstN, e2, dF e, Bool.false_or]
    cases hc : c k with
    | true => rw [if_pos rfl]; simp
    | false =>
      rw [if_neg (by decide)]
      have := (fst_le c (k.toNat - 1)).2
      exact dF (by omega)
def obsFrom (lim : Int) (gs : List (Int × Int)) (st tt : List Int) (k : Int) (n : Nat) : PyData := match (rngI k n).flatMap (obsAt lim gs st tt) with
  | [] => .none
  | o :: _ => o
theorem lo_loop (lim : Int) (gs : List (Int × Int)) (st tt : List Int) (hg : gs.length ≤ 14) (D : DEnds) (a0 a1 a2 : Sl) (e0 : a0 = .d (wellD lim gs)) : ∀ (n : Nat) (k : Int) (s6 : Sl), 0 ≤ k → k + n = gs.length →
    (∀ s6, D.rt (.d (obsFrom lim gs st tt k n)) [a0, a1, a2, .d (.list (ilD ((rngI 0 gs.length).map (fstI (cutB lim gs))))), .d (stD (scOf lim gs st)), .d (stD (scOf lim gs tt)), s6]) →
    (∀ s6, D.nx [a0, a1, a2, .d (.list (ilD ((rngI 0 gs.length).map (fstI (cutB lim gs))))), .d (stD (scOf lim gs st)), .d (stD (scOf lim gs tt)), s6] = D.rt (.d .none) [a0, a1, a2, .d (.list (ilD ((rngI 0 gs.length).map (fstI (cutB lim gs))))), .d (stD (scOf lim gs st)), .d (stD (scOf lim gs tt)), s6]) →
    forD w_law_obstruction_g1 w_law_obstruction_b1 D (rangeD k n) [a0, a1, a2, .d (.list (ilD ((rngI 0 gs.length).map (fstI (cutB lim gs))))), .d (stD (scOf lim gs st)), .d (stD (scOf lim gs tt)), s6] := by
  subst e0
  intro n
  induction n with
  | zero => intro k s6 _ _ q hn; rw [rangeD, ev_forN, hn]; exact q s6
  | succ n ih =>
    intro k s6 h0 h1 q hn
    rw [rangeD, ev_forC]
    unfold w_law_obstruction_g1 w_law_obstruction_b1
    have a1' : atI (ilD (scOf lim gs st)) k = some (.int (scRun lim gs st k)) := at_rng _ _ _ h0 (by omega)
    have a2' : atI (ilD (scOf lim gs tt)) k = some (.int (scRun lim gs tt k)) := at_rng _ _ _ h0 (by omega)
    have a3' := at_rng (fstI (cutB lim gs)) gs.length k h0 (by omega)
    unfold obsFrom at q
    rw [rngI, List.flatMap_cons] at q
    unfold stD at q hn ⊢
    walk_at "ee"
    rw [a2']
    walk_at "ee"
    rw [a1']
    walk_at "ee"
    by_cases c1 : scRun lim gs tt k < scRun lim gs st k
    · have eo : obsAt lim gs st tt k = [.tuple [.str "fewer", .int k]] := by unfold obsAt; rw [if_pos c1]
      rw [eo] at q
      rw [dT c1]
      walk_at "ee"
      exact q _
    · rw [dF c1]
      walk_at "ee"
      rw [a2']
      walk_at "ee"
      rw [a1']
      walk_at "ee"
      have skip : obsAt lim gs st tt k = [] → forD w_law_obstruction_g1 w_law_obstruction_b1 D (rangeD (k + 1) n) [.d (wellD lim gs), a1, a2, .d (.list (ilD ((rngI 0 gs.length).map (fstI (cutB lim gs))))), .d (.tuple (ilD (scOf lim gs st))), .d (.tuple (ilD (scOf lim gs tt))), .d (.int k)] := fun eo => by
        rw [eo, List.nil_append] at q
        exact ih (k + 1) _ (by omega) (by omega) q hn
      by_cases c2 : scRun lim gs st k < scRun lim gs tt k
      · rw [dT c2]
        walk_at "ee"
        rw [a3']
        walk_at "ee"
        rw [fst_self _ _ h0]
        have hit : cutB lim gs k = true → obsAt lim gs st tt k = [.tuple [.str "more", .int k]] := fun c3 => by unfold obsAt; rw [if_neg c1, if_pos ⟨c2, c3⟩]
        have mis : cutB lim gs k = false → obsAt lim gs st tt k = [] := fun c3 => by unfold obsAt; rw [if_neg c1, if_neg (by rw [c3]; exact fun h => by cases h.2)]
        by_cases c0 : k = 0
        · rw [dT c0, Bool.true_or]
          walk_at "ee"
          rw [dF (show ¬ (0 : Int) < k by omega)]
          walk_at "ee"
          refine ⟨_, lim, gs, 0, rfl, wellD_is lim gs, by omega, ?_⟩
          unfold wellD
          walk_at "ee"
          have e3 : cutB lim gs k = decide (lim < wtOf gs 0) := by
            unfold cutB
            rw [c0]
            have : wtOf gs (0 - 1) = 0 := rfl
            rw [this, Int.sub_zero]
          rw [← e3]
          cases c3 : cutB lim gs k with
          | true =>
            rw [hit c3] at q
            walk_at "ee"
            exact q _
          | false =>
            walk_at "ee"
            exact skip (mis c3)
        · rw [dF c0, Bool.false_or]
          cases c3 : cutB lim gs k with
          | true =>
            rw [hit c3] at q
            walk_at "ee"
            rw [dT (show (0 : Int) < k by omega)]
            walk_at "ee"
            exact q _
          | false =>
            walk_at "ee"
            exact skip (mis c3)
      · rw [dF c2]
        walk_at "ee"
        exact skip (by unfold obsAt; rw [if_neg c1, if_neg (fun h => c2 h.1)])
theorem b_law_obstruction (as : List Ag) (m : Addr) (R : RXc) (Q : Rs → List (List PyData) → Prop) (hl : as.length = 3) (h : S_law_obstruction as R Q) : w_law_obstruction (dEnds as m Q noR) (dStart 7 as m) := by
  obtain ⟨lim, gs, st, tt, rfl, hne, hg, hs, ht, q⟩ := h
  unfold w_law_obstruction
  walk_at "ee"
  refine ⟨lim, gs, rfl, hg, ?_⟩
  walk_at "ee"
  refine ⟨lim, gs, st, rfl, hg, hs, ?_⟩
  walk_at "ee"
  refine ⟨lim, gs, tt, rfl, hg, ht, ?_⟩
  rw [show stD st = .tuple (ilD st) from rfl]
  walk_at "ee"
  have el : (ilD st).length = gs.length := by unfold ilD; rw [List.length_map]; exact hs
  rw [el]
  refine ⟨by unfold okRg; omega, ?_⟩
  refine lo_loop lim gs st tt hg _ _ _ _ rfl gs.length 0 _ (by omega) (by omega) (fun s6 => ?_) (fun s6 => ?_)
  · walk_at "ee"
    exact q
  · rfl
end LW

namespace LW
open PySem L2 DL
local macro_rules | `(tactic| walk_at "ee") => `(tactic| simp only [↓asB_b, ↓with1_s, ↓with2_s, ↓asI_s, ↓withL_s, ↓withA_s, ↓putI_s, ↓subI_s, ↓as2I_s, ↓appV_s, ↓isO_o, ↓ev_var, ↓ev_vd, ↓ev_vo, ↓ev_c, ↓ev_avar, ↓ev_ad, ↓ev_ao, ↓ev_kz, ↓ev_of, ↓ev_kof, ↓ev_op, ↓ev_op1, ↓ev_op2, ↓ev_op3, ↓ev_un, ↓ev_un1, ↓ev_un2, ↓ev_test, ↓ev_ktest, ↓ev_and, ↓ev_kandT, ↓ev_kandF, ↓ev_or, ↓ev_korT, ↓ev_korF, ↓ev_not, ↓ev_knot, ↓ev_andV, ↓ev_kandV, ↓ev_kandVT, ↓ev_kandVF, ↓ev_orV, ↓ev_korV, ↓ev_korVT, ↓ev_korVF, ↓ev_notV, ↓ev_knotV, ↓ev_knotV2, ↓ev_ifE, ↓ev_kifET, ↓ev_kifEF, ↓ev_chain, ↓ev_ch1, ↓ev_ch2, ↓ev_ch2b, ↓ev_ch3, ↓ev_ch4T, ↓ev_ch4F, ↓ev_ch5, ↓ev_ch6, ↓ev_nil, ↓ev_cons, ↓ev_kcons, ↓ev_kcons2, ↓ev_lst, ↓ev_klst, ↓ev_tup, ↓ev_ktup, ↓ev_rnil, ↓ev_rcons, ↓ev_krcons, ↓ev_krcons2, ↓ev_anil, ↓ev_acons, ↓ev_kacons, ↓ev_kacons2, ↓ev_pnone, ↓ev_psome, ↓ev_kp, ↓ev_kp2, ↓ev_sl, ↓ev_sl1, ↓ev_sl2, ↓ev_sl3, ↓ev_sl4, ↓ev_slL, ↓ev_slT, ↓ev_cb, ↓ev_kcb, ↓ev_kcb2, ↓ev_isi, ↓ev_kisi, ↓ev_kisi2, ↓ev_call, ↓ev_kcall, ↓ev_callK, ↓ev_kcallK, ↓ev_kq, ↓ev_comp, ↓ev_kcomp, ↓ev_kcompE, ↓ev_compN, ↓ev_compC, ↓ev_kc1, ↓ev_kc2T, ↓ev_kc2F, ↓ev_kc3, ↓ev_yes, ↓ev_gn, ↓ev_gnil, ↓ev_gcons, ↓ev_kg, ↓ev_gtup, ↓ev_seqT, ↓ev_seqL, ↓ev_sub, ↓ev_ksub, ↓ev_iseq, ↓ev_kiseq, ↓ev_seqVL, ↓ev_seqVT, ↓ev_kqd, ↓ev_rg1, ↓ev_krg1, ↓ev_krg1b, ↓ev_rg2, ↓ev_krg2, ↓ev_krg2b, ↓ev_krg2c, ↓ev_en, ↓ev_ken, ↓ev_enL, ↓ev_zp, ↓ev_kzp, ↓ev_kzp2, ↓ev_zpL, ↓ev_zpT, ↓ev_zpLT, ↓ev_zpTL, ↓ev_snext, ↓ev_sseq, ↓ev_knx, ↓nx_set, ↓rt_set, ↓bk_set, ↓ct_set, ↓ex_set, ↓nx_for, ↓rt_for, ↓bk_for, ↓ct_for, ↓ex_for, ↓nx_end, ↓rt_end, ↓ex_end, ↓ev_sbrk, ↓ev_scont, ↓ev_sdrop, ↓ev_kdrop, ↓ev_sret, ↓ev_sretN, ↓ev_sif, ↓ev_kifT, ↓ev_kifF, ↓ev_sset, ↓ev_kset, ↓ev_sasg, ↓ev_kasg, ↓ev_saug, ↓ev_kaug, ↓ev_kaug2, ↓ev_kaug3, ↓ev_sapp, ↓ev_kapp, ↓ev_spar, ↓ev_kpar, ↓ev_sfor, ↓ev_kfori, ↓ev_forN, ↓ev_forC, ↓ev_kfor, ↓o_addI, ↓o_addL, ↓o_addT, ↓o_addS, ↓o_sub, ↓o_iadd, ↓o_mod, ↓o_fdiv, ↓o_pow, ↓o_mulI, ↓o_mulL, ↓o_mulT, ↓o_lt, ↓o_le, ↓o_gt, ↓o_ge, ↓o_isB, ↓o_notB, ↓o_isN, ↓o_notN, ↓n_none, ↓n_int, ↓n_bool, ↓n_str, ↓n_list, ↓n_tup, ↓o_neg, ↓o_rev, ↓ixV_s, ↓o_ixL, ↓o_ixT, ↓c_abs, ↓c_intI, ↓c_intB, ↓c_lenL, ↓c_lenT, ↓c_max2, ↓c_min2, ↓c_listL, ↓c_listT, ↓c_tupL, ↓c_tupT, ↓c_divmod, ↓c_str, ↓c_sum1, ↓c_sumT1, ↓c_max1, ↓c_min1, ↓c_all1, ↓c_any1, ↓g_0, ↓g_s, ↓s_0, ↓s_s, ↓v_un, ↓v_d, ↓v_o, ↓res_x, ↓res_v, ↓val_d, ↓val_f, ↓sl_d, ↓sl_f, ↓ag_d, ↓ag_o, ↓cons?_s, ↓ra_nil, ↓cons2?_s, ↓ra_cons, ↓ag_nil, ↓ag_x, ↓agV_s, ↓ag_v, ↓nr_nil, ↓nr_x, ↓nrV_d, ↓nrV_o, ↓nr_v, ↓vx_nil, ↓vx_x, ↓vx_v, ↓putV_o, ↓pb_0, ↓pb_1, ↓pl_nil, ↓pl_0, ↓pl_1, ↓pl_2, ↓pl_3, ↓rd_0, ↓bx_nil, ↓bx_d, ↓bx_o, ↓rd_o, ↓kd_un, ↓kd_d, ↓sa_nil, ↓sa_cons, ↓wp_nil, ↓wp_cons, ↓rs_nil, ↓rs_cons, ↓ev_lc2, ↓ev_klc2, ↓ev_c2N, ↓ev_c2C, ↓ev_k21, ↓ev_k22T, ↓ev_k22F, ↓ev_k23, ↓ev_k24, ↓c_repr, ↓c_sort, ↓ev_callP, ↓ev_peek, ↓ev_peek2, ↓ev_scal, ↓ev_callF, ↓ev_knew, ↓ev_kdat, ↓c_listS, ↓c_tupS, ↓c_lenS, ↓o_well0, ↓o_well1, ↓seqT_g, ↓o_grp0, ↓o_grp1, ↓seqT_m, ↓o_mv0, ↓o_mv1, ↓o_st, ↓ev_lz, ↓ev_klz, ↓ev_klz2, ↓ev_klz3, ↓ev_tru, ↓ev_ktruB, ↓ev_ktruL, ↓ev_ktruF, ↓ev_nest, ↓ev_knest, Rs.val, Rs.sl, Ag.sl, Opd.res, Sl.val, Sl.keepD, isD_n, isD_b, isD_i, isD_s, isD_l, isD_t, eq_self, eqD_int, neD_int, eqD_ll, neD_ll, eqD_tt, neD_tt, eqD_bb, neD_bb, eqD_ss, neD_ss, atI_0, atI_1, atI_2, atI_3, ixN_1_0, ixN_2_0, ixN_2_1, ixN_3_0, ixN_3_1, ixN_3_2, ixN_4_0, ixN_4_1, ixN_4_2, ixN_4_3, dStart, repUn, tYesD, List.map_cons, List.map_nil, List.cons_append, List.nil_append, List.length_cons, List.length_nil, true_and, and_true, ne_eq, not_false_eq_true, reduceCtorEq, Option.some.injEq, Option.map_none, Option.map_some, Nat.reduceAdd, Nat.reduceSub, Nat.reduceLT, Nat.reduceLeDiff, Nat.zero_lt_succ, Nat.le_refl, Bool.not_true, Bool.not_false, decide_true, decide_false, Int.reduceLE, Int.reduceLT, Int.reduceEq, Int.toNat_zero, Int.reduceToNat, Int.reducePow, Int.reduceNeg, Int.toNat_one, List.set_cons_zero, List.set_cons_succ, List.not_mem_nil, List.mem_cons, false_or, or_false, forall_eq, forall_eq_or_imp, if_true, if_false, ite_true, ite_false, Bool.false_eq_true, forall_const, implies_true, false_implies])
def isIntD (x : PyData) : Bool := match x with
  | .int _ => true
  | _ => false
def tupLen (x : PyData) (n : Int) : Bool := match x with
  | .tuple xs => decide ((xs.length : Int) = n)
  | _ => false
def S_is_integer : DSp := fun as R Q => ∃ x, as = [.d x] ∧ isD x = false ∧ Q (.d (.bool (isIntD x))) []
/-- is_integer -/
def w_is_integer : TSd :=
  (sRet (dAndV (dIsi ["int"] (aVar 0)) (dNotV (dIsi ["bool"] (aVar 0)))))
theorem b_is_integer (as : List Ag) (m : Addr) (R : RXc) (Q : Rs → List (List PyData) → Prop) (hl : as.length = 1) (h : S_is_integer as R Q) : w_is_integer (dEnds as m Q noR) (dStart 1 as m) := by
  obtain ⟨x, rfl, hd, q⟩ := h
  unfold w_is_integer
  walk_at "ee"
  refine ⟨hd, ?_⟩
  rw [isi_any1]
  cases x <;> simp only [isiB, isIntD] at q ⊢
  · exact q
  · rw [show ("int" == "bool" || "int" == "int") = true from rfl]
    walk_at "ee"
    rw [isi_any1]
    simp only [isiB]
    rw [show ("bool" == "bool" || "bool" == "int") = true from rfl]
    walk_at "ee"
    exact q
  · rw [show ("int" == "int") = true from rfl]
    walk_at "ee"
    rw [isi_any1]
    simp only [isiB]
    rw [show ("bool" == "int") = false from rfl]
    walk_at "ee"
    exact q
  · rw [show ("int" == "str") = false from rfl]
    walk_at "ee"
    exact q
  · rw [show ("int" == "list") = false from rfl]
    walk_at "ee"
    exact q
  · rw [show ("int" == "tuple") = false from rfl]
    walk_at "ee"
    exact q
  · cases hd
def S_is_tuple : DSp := fun as R Q => ∃ x n, as = [.d x, .d (.int n)] ∧ isD x = false ∧ Q (.d (.bool (tupLen x n))) []
/-- is_tuple -/
def w_is_tuple : TSd :=
  (sRet (dAndV (dIsi ["tuple"] (aVar 0)) (dOp eqD (aOf (dCB lenK (aCons (aVar 0) aNil))) (aVar 1))))
theorem b_is_tuple (as : List Ag) (m : Addr) (R : RXc) (Q : Rs → List (List PyData) → Prop) (hl : as.length = 2) (h : S_is_tuple as R Q) : w_is_tuple (dEnds as m Q noR) (dStart 2 as m) := by
  obtain ⟨x, n, rfl, hd, q⟩ := h
  unfold w_is_tuple
  walk_at "ee"
  refine ⟨hd, ?_⟩
  rw [isi_any1]
  cases x <;> simp only [isiB, tupLen] at q ⊢
  · walk_at "ee"; exact q
  · rw [show ("tuple" == "bool" || "tuple" == "int") = false from rfl]
    walk_at "ee"; exact q
  · rw [show ("tuple" == "int") = false from rfl]
    walk_at "ee"; exact q
  · rw [show ("tuple" == "str") = false from rfl]
    walk_at "ee"; exact q
  · rw [show ("tuple" == "list") = false from rfl]
    walk_at "ee"; exact q
  · rw [show ("tuple" == "tuple") = true from rfl]
    walk_at "ee"; exact q
  · cases hd
def obsV (lim : Int) (gs : List (Int × Int)) (st tt : List Int) (v : PyData) : Bool := match v with
  | .tuple [_, .int _] => (obsL lim gs st tt).any fun z => PyData.eqv z v
  | _ => false
def S_is_obstruction : DSp := fun as R Q => ∃ (x y z v : PyData) (lim : Int) (gs : List (Int × Int)) (st tt : List Int), as = [.d x, .d y, .d z, .d v] ∧ WellIs x lim gs ∧ gs.length ≤ 14 ∧ SeqIs y (ilD st) ∧ st.length = gs.length ∧ SeqIs z (ilD tt) ∧ tt.length = gs.length ∧ SeqAt.shaped v = true ∧ Q (.d (.bool (obsV lim gs st tt v))) []
/-- is_obstruction -/
def w_is_obstruction : TSd :=
  (sSeq (sIf (dOr (dNot (dTest (dCallN 2 S_is_tuple (aCons (aOf (dVar 3)) (aCons (aOf (dC (.int 2))) aNil))))) (dNot (dTest (dCallN 1 S_is_integer (aCons (aOf (dOp ixD (aVar 3) (aOf (dC (.int 1))))) aNil))))) (sRet (dC (.bool false))) sNext)
  (sRet (dOp inD (aVar 3) (aOf (dCallN 3 S_obstructions (aCons (aOf (dVar 0)) (aCons (aOf (dVar 1)) (aCons (aOf (dVar 2)) aNil))))))))
theorem shaped_isD {v : PyData} (h : SeqAt.shaped v = true) : isD v = false := by
  cases v with
  | dict kvs => unfold SeqAt.shaped at h; simp [PyData.canLay0] at h
  | _ => rfl
theorem shaped_mem {xs : List PyData} {x : PyData} (h : SeqAt.shaped (.tuple xs) = true) (m : x ∈ xs) : SeqAt.shaped x = true := by
  unfold SeqAt.shaped at h ⊢
  rw [Bool.and_eq_true, decide_eq_true_eq] at h ⊢
  obtain ⟨h1, h2⟩ := h
  rw [PyData.canLay0] at h1
  rw [PyData.depth] at h2
  have key : ∀ (ys : List PyData), PyData.canLayAll0 ys = true → ∀ n, PyData.depthAll ys ≤ n → x ∈ ys → x.canLay0 = true ∧ x.depth ≤ n := fun ys => by
    induction ys with
    | nil => intro _ _ _ hm; simp at hm
    | cons y ys ih =>
      intro c n d hm
      rw [PyData.canLayAll0, Bool.and_eq_true] at c
      rw [PyData.depthAll] at d
      rcases List.mem_cons.mp hm with z | z
      · rw [z]; exact ⟨c.1, by omega⟩
      · exact ih c.2 n (by omega) z
  exact key xs h1 64 (by omega) m
theorem obs_lay : ∀ (xs : List PyData), (∀ z ∈ xs, z.canLay0 = true ∧ z.depth ≤ 3) → PyData.canLayAll0 xs = true ∧ PyData.depthAll xs ≤ 3
  | [], _ => ⟨rfl, Nat.zero_le _⟩
  | x :: xs, h => by
    have := obs_lay xs fun z m => h z (by simp [m])
    have h0 := h x (by simp)
    exact ⟨by rw [PyData.canLayAll0, h0.1, this.1]; rfl, by rw [PyData.depthAll]; omega⟩
theorem obsL_mem {lim : Int} {gs : List (Int × Int)} {st tt : List Int} {z : PyData} (h : z ∈ obsL lim gs st tt) : ∃ k, z = .tuple [.str "fewer", .int k] ∨ z = .tuple [.str "more", .int k] := by
  unfold obsL at h
  obtain ⟨k, _, hk⟩ := List.mem_flatMap.mp h
  unfold obsAt at hk
  split at hk
  · exact ⟨k, .inl (by simpa using hk)⟩
  · split at hk
    · exact ⟨k, .inr (by simpa using hk)⟩
    · simp at hk
theorem lay_ob (w : Str) (k : Int) (hw : (PyData.str w).canLay0 = true) : (PyData.tuple [.str w, .int k]).canLay0 = true ∧ (PyData.tuple [.str w, .int k]).depth ≤ 3 := by
  refine ⟨?_, ?_⟩
  · rw [PyData.canLay0, PyData.canLayAll0, hw, PyData.canLayAll0, PyData.canLayAll0]; rfl
  · simp [PyData.depth, PyData.depthAll]
theorem obsL_shaped (lim : Int) (gs : List (Int × Int)) (st tt : List Int) : SeqAt.shaped (.list (obsL lim gs st tt)) = true := by
  have := obs_lay (obsL lim gs st tt) fun z hz => by
    obtain ⟨k, e | e⟩ := obsL_mem hz
    · rw [e]; exact lay_ob _ k (by decide +kernel)
    · rw [e]; exact lay_ob _ k (by decide +kernel)
  unfold SeqAt.shaped
  rw [PyData.canLay0, PyData.depth, this.1, Bool.true_and]
  exact decide_eq_true (by omega)
theorem b_is_obstruction (as : List Ag) (m : Addr) (R : RXc) (Q : Rs → List (List PyData) → Prop) (hl : as.length = 4) (h : S_is_obstruction as R Q) : w_is_obstruction (dEnds as m Q noR) (dStart 4 as m) := by
  obtain ⟨x, y, z, v, lim, gs, st, tt, rfl, hx, hg, hy, hs, hz, ht, hv, q⟩ := h
  unfold w_is_obstruction
  walk_at "ee"
  refine ⟨v, 2, rfl, shaped_isD hv, ?_⟩
  walk_at "ee"
  have no : tupLen v 2 = false → obsV lim gs st tt v = false := fun h => by
    unfold obsV
    split
    · simp [tupLen] at h
    · rfl
  cases e : tupLen v 2 with
  | false =>
    rw [no e] at q
    walk_at "ee"
    exact q
  | true =>
    obtain ⟨a, b, rfl⟩ : ∃ a b, v = .tuple [a, b] := by
      unfold tupLen at e
      split at e
      · rename_i xs
        have e' := of_decide_eq_true e
        obtain _ | ⟨a, _ | ⟨b, _ | ⟨c, xs⟩⟩⟩ := xs
        · simp at e'
        · simp at e'
        · exact ⟨a, b, rfl⟩
        · simp only [List.length_cons] at e'; omega
      · cases e
    walk_at "ee"
    refine ⟨b, rfl, shaped_isD (shaped_mem hv (by simp)), ?_⟩
    walk_at "ee"
    cases e2 : isIntD b with
    | false =>
      have : obsV lim gs st tt (.tuple [a, b]) = false := by
        unfold obsV
        split
        · rename_i h; cases h; cases e2
        · rfl
      rw [this] at q
      walk_at "ee"
      exact q
    | true =>
      obtain ⟨k, rfl⟩ : ∃ k, b = .int k := by
        cases b <;> first | exact ⟨_, rfl⟩ | cases e2
      walk_at "ee"
      refine ⟨x, y, z, lim, gs, st, tt, rfl, hx, hg, hy, hs, hz, ht, ?_⟩
      walk_at "ee"
      exact ⟨hv, obsL_shaped _ _ _ _, q⟩
end LW

namespace LW
open PySem L2 DL
local macro_rules | `(tactic| walk_at "ee") => `(tactic| simp only [↓asB_b, ↓with1_s, ↓with2_s, ↓asI_s, ↓withL_s, ↓withA_s, ↓putI_s, ↓subI_s, ↓as2I_s, ↓appV_s, ↓isO_o, ↓ev_var, ↓ev_vd, ↓ev_vo, ↓ev_c, ↓ev_avar, ↓ev_ad, ↓ev_ao, ↓ev_kz, ↓ev_of, ↓ev_kof, ↓ev_op, ↓ev_op1, ↓ev_op2, ↓ev_op3, ↓ev_un, ↓ev_un1, ↓ev_un2, ↓ev_test, ↓ev_ktest, ↓ev_and, ↓ev_kandT, ↓ev_kandF, ↓ev_or, ↓ev_korT, ↓ev_korF, ↓ev_not, ↓ev_knot, ↓ev_andV, ↓ev_kandV, ↓ev_kandVT, ↓ev_kandVF, ↓ev_orV, ↓ev_korV, ↓ev_korVT, ↓ev_korVF, ↓ev_notV, ↓ev_knotV, ↓ev_knotV2, ↓ev_ifE, ↓ev_kifET, ↓ev_kifEF, ↓ev_chain, ↓ev_ch1, ↓ev_ch2, ↓ev_ch2b, ↓ev_ch3, ↓ev_ch4T, ↓ev_ch4F, ↓ev_ch5, ↓ev_ch6, ↓ev_nil, ↓ev_cons, ↓ev_kcons, ↓ev_kcons2, ↓ev_lst, ↓ev_klst, ↓ev_tup, ↓ev_ktup, ↓ev_rnil, ↓ev_rcons, ↓ev_krcons, ↓ev_krcons2, ↓ev_anil, ↓ev_acons, ↓ev_kacons, ↓ev_kacons2, ↓ev_pnone, ↓ev_psome, ↓ev_kp, ↓ev_kp2, ↓ev_sl, ↓ev_sl1, ↓ev_sl2, ↓ev_sl3, ↓ev_sl4, ↓ev_slL, ↓ev_slT, ↓ev_cb, ↓ev_kcb, ↓ev_kcb2, ↓ev_isi, ↓ev_kisi, ↓ev_kisi2, ↓ev_call, ↓ev_kcall, ↓ev_callK, ↓ev_kcallK, ↓ev_kq, ↓ev_comp, ↓ev_kcomp, ↓ev_kcompE, ↓ev_compN, ↓ev_compC, ↓ev_kc1, ↓ev_kc2T, ↓ev_kc2F, ↓ev_kc3, ↓ev_yes, ↓ev_gn, ↓ev_gnil, ↓ev_gcons, ↓ev_kg, ↓ev_gtup, ↓ev_seqT, ↓ev_seqL, ↓ev_sub, ↓ev_ksub, ↓ev_iseq, ↓ev_kiseq, ↓ev_seqVL, ↓ev_seqVT, ↓ev_kqd, ↓ev_rg1, ↓ev_krg1, ↓ev_krg1b, ↓ev_rg2, ↓ev_krg2, ↓ev_krg2b, ↓ev_krg2c, ↓ev_en, ↓ev_ken, ↓ev_enL, ↓ev_zp, ↓ev_kzp, ↓ev_kzp2, ↓ev_zpL, ↓ev_zpT, ↓ev_zpLT, ↓ev_zpTL, ↓ev_snext, ↓ev_sseq, ↓ev_knx, ↓nx_set, ↓rt_set, ↓bk_set, ↓ct_set, ↓ex_set, ↓nx_for, ↓rt_for, ↓bk_for, ↓ct_for, ↓ex_for, ↓nx_end, ↓rt_end, ↓ex_end, ↓ev_sbrk, ↓ev_scont, ↓ev_sdrop, ↓ev_kdrop, ↓ev_sret, ↓ev_sretN, ↓ev_sif, ↓ev_kifT, ↓ev_kifF, ↓ev_sset, ↓ev_kset, ↓ev_sasg, ↓ev_kasg, ↓ev_saug, ↓ev_kaug, ↓ev_kaug2, ↓ev_kaug3, ↓ev_sapp, ↓ev_kapp, ↓ev_spar, ↓ev_kpar, ↓ev_sfor, ↓ev_kfori, ↓ev_forN, ↓ev_forC, ↓ev_kfor, ↓o_addI, ↓o_addL, ↓o_addT, ↓o_addS, ↓o_sub, ↓o_iadd, ↓o_mod, ↓o_fdiv, ↓o_pow, ↓o_mulI, ↓o_mulL, ↓o_mulT, ↓o_lt, ↓o_le, ↓o_gt, ↓o_ge, ↓o_isB, ↓o_notB, ↓o_isN, ↓o_notN, ↓n_none, ↓n_int, ↓n_bool, ↓n_str, ↓n_list, ↓n_tup, ↓o_neg, ↓o_rev, ↓ixV_s, ↓o_ixL, ↓o_ixT, ↓c_abs, ↓c_intI, ↓c_intB, ↓c_lenL, ↓c_lenT, ↓c_max2, ↓c_min2, ↓c_listL, ↓c_listT, ↓c_tupL, ↓c_tupT, ↓c_divmod, ↓c_str, ↓c_sum1, ↓c_sumT1, ↓c_max1, ↓c_min1, ↓c_all1, ↓c_any1, ↓g_0, ↓g_s, ↓s_0, ↓s_s, ↓v_un, ↓v_d, ↓v_o, ↓res_x, ↓res_v, ↓val_d, ↓val_f, ↓sl_d, ↓sl_f, ↓ag_d, ↓ag_o, ↓cons?_s, ↓ra_nil, ↓cons2?_s, ↓ra_cons, ↓ag_nil, ↓ag_x, ↓agV_s, ↓ag_v, ↓nr_nil, ↓nr_x, ↓nrV_d, ↓nrV_o, ↓nr_v, ↓vx_nil, ↓vx_x, ↓vx_v, ↓putV_o, ↓pb_0, ↓pb_1, ↓pl_nil, ↓pl_0, ↓pl_1, ↓pl_2, ↓pl_3, ↓rd_0, ↓bx_nil, ↓bx_d, ↓bx_o, ↓rd_o, ↓kd_un, ↓kd_d, ↓sa_nil, ↓sa_cons, ↓wp_nil, ↓wp_cons, ↓rs_nil, ↓rs_cons, ↓ev_lc2, ↓ev_klc2, ↓ev_c2N, ↓ev_c2C, ↓ev_k21, ↓ev_k22T, ↓ev_k22F, ↓ev_k23, ↓ev_k24, ↓c_repr, ↓c_sort, ↓ev_callP, ↓ev_peek, ↓ev_peek2, ↓ev_scal, ↓ev_callF, ↓ev_knew, ↓ev_kdat, ↓c_listS, ↓c_tupS, ↓c_lenS, ↓o_well0, ↓o_well1, ↓seqT_g, ↓o_grp0, ↓o_grp1, ↓seqT_m, ↓o_mv0, ↓o_mv1, ↓o_st, ↓ev_lz, ↓ev_klz, ↓ev_klz2, ↓ev_klz3, ↓ev_tru, ↓ev_ktruB, ↓ev_ktruL, ↓ev_ktruF, ↓ev_nest, ↓ev_knest, Rs.val, Rs.sl, Ag.sl, Opd.res, Sl.val, Sl.keepD, isD_n, isD_b, isD_i, isD_s, isD_l, isD_t, eq_self, eqD_int, neD_int, eqD_ll, neD_ll, eqD_tt, neD_tt, eqD_bb, neD_bb, eqD_ss, neD_ss, atI_0, atI_1, atI_2, atI_3, ixN_1_0, ixN_2_0, ixN_2_1, ixN_3_0, ixN_3_1, ixN_3_2, ixN_4_0, ixN_4_1, ixN_4_2, ixN_4_3, dStart, repUn, tYesD, List.map_cons, List.map_nil, List.cons_append, List.nil_append, List.length_cons, List.length_nil, true_and, and_true, ne_eq, not_false_eq_true, reduceCtorEq, Option.some.injEq, Option.map_none, Option.map_some, Nat.reduceAdd, Nat.reduceSub, Nat.reduceLT, Nat.reduceLeDiff, Nat.zero_lt_succ, Nat.le_refl, Bool.not_true, Bool.not_false, decide_true, decide_false, Int.reduceLE, Int.reduceLT, Int.reduceEq, Int.toNat_zero, Int.reduceToNat, Int.reducePow, Int.reduceNeg, Int.toNat_one, List.set_cons_zero, List.set_cons_succ, List.not_mem_nil, List.mem_cons, false_or, or_false, forall_eq, forall_eq_or_imp, if_true, if_false, ite_true, ite_false, Bool.false_eq_true, forall_const, implies_true, false_implies])
/-! ### what moves do to suffix counts -/
theorem asc_wt : ∀ {gs : List (Int × Int)} {w : Int}, Asc w gs → ∀ (i j : Nat), i < j → j < gs.length → wtOf gs i < wtOf gs j
  | [], _, _, _, _, _, h => by simp at h
  | g :: gs, w, a, i, 0, h, _ => by omega
  | g :: gs, w, a, 0, j + 1, _, hj => by
    simp only [List.length_cons] at hj
    have hj' : j < gs.length := by omega
    have := asc_pos a.2 gs[j] (List.getElem_mem hj')
    unfold wtOf
    rw [if_neg (by omega), if_neg (by omega)]
    rw [show (((0 : Nat) : Int)).toNat = 0 from rfl, show (((j + 1 : Nat) : Int)).toNat = j + 1 from by omega]
    rw [List.getElem?_cons_zero, List.getElem?_cons_succ, List.getElem?_eq_getElem hj']
    exact this
  | g :: gs, w, a, i + 1, j + 1, h, hj => by
    simp only [List.length_cons] at hj
    have := asc_wt a.2 i j (by omega) (by omega)
    unfold wtOf at this ⊢
    rw [if_neg (by omega), if_neg (by omega)] at this ⊢
    rw [show (((i + 1 : Nat) : Int)).toNat = i + 1 from by omega, show (((j + 1 : Nat) : Int)).toNat = j + 1 from by omega, List.getElem?_cons_succ, List.getElem?_cons_succ]
    simpa using this
theorem wt_le {lim : Int} {gs : List (Int × Int)} (hw : WellOk lim gs) (i j : Int) (h0 : -1 ≤ i) (h1 : i ≤ j) (h2 : j < gs.length) : wtOf gs i ≤ wtOf gs j := by
  by_cases e : i = j
  · rw [e]; exact Int.le_refl _
  · by_cases c : i = -1
    · have : wtOf gs i = 0 := by rw [c]; rfl
      rw [this]
      exact (wt_bnd hw.wt j).1
    · have := asc_wt hw.asc i.toNat j.toNat (by omega) (by omega)
      rw [show ((i.toNat : Nat) : Int) = i by omega, show ((j.toNat : Nat) : Int) = j by omega] at this
      omega
theorem mv_nocut {lim : Int} {gs : List (Int × Int)} (hw : WellOk lim gs) {k l : Int} (hk : k < gs.length) (hl : -1 ≤ l) (hlim : wtOf gs k - lim ≤ wtOf gs l) (i : Int) (h1 : l < i) (h2 : i ≤ k) : cutB lim gs i = false := by
  have a := wt_le hw i k (by omega) h2 hk
  have b := wt_le hw l (i - 1) hl (by omega) (by omega)
  unfold cutB
  exact dF (by omega)
theorem run_move {c : Int → Bool} {f f' : Int → Int} {n k l t : Int} (hk : k < n) (hl : l < k) (hn : ∀ i, l < i → i ≤ k → c i = false) (hf : ∀ i, 0 ≤ i → f' i = f i + (if i = k then t else if i = l then -t else 0)) : ∀ (m : Nat) (j : Int), 0 ≤ j → j + m = n → runS c f' j m = runS c f j m + (if l < j ∧ j ≤ k then t else 0) := by
  intro m
  induction m with
  | zero =>
    intro j h0 h1
    rw [runS, runS, if_neg (by omega)]; rfl
  | succ m ih =>
    intro j h0 h1
    rw [runS, runS, hf j h0]
    have hT : (true : Bool) = true := rfl
    have hF : ¬ ((false : Bool) = true) := by decide
    cases hc : c (j + 1) with
    | true =>
      rw [if_pos hT, if_pos hT]
      have : ¬ (l < j + 1 ∧ j + 1 ≤ k) := fun h => by rw [hn _ h.1 h.2] at hc; cases hc
      by_cases e1 : j = k
      · rw [if_pos e1, if_pos (by omega)]; omega
      · by_cases e2 : j = l
        · omega
        · rw [if_neg e1, if_neg e2, if_neg (by omega)]; try omega
    | false =>
      rw [if_neg hF, if_neg hF, ih (j + 1) (by omega) (by omega)]
      by_cases e1 : j = k
      · rw [if_pos e1, if_neg (by omega : ¬ (l < j + 1 ∧ j + 1 ≤ k)), if_pos (by omega : l < j ∧ j ≤ k)]; omega
      · by_cases e2 : j = l
        · rw [if_neg e1, if_pos e2, if_pos (by omega : l < j + 1 ∧ j + 1 ≤ k), if_neg (by omega : ¬ (l < j ∧ j ≤ k))]; omega
        · rw [if_neg e1, if_neg e2]
          by_cases e3 : l < j ∧ j ≤ k
          · rw [if_pos (by omega : l < j + 1 ∧ j + 1 ≤ k), if_pos e3]; omega
          · rw [if_neg (by omega : ¬ (l < j + 1 ∧ j + 1 ≤ k)), if_neg e3]; omega
theorem stAt_set (st : List Int) (k v i : Int) (h0 : 0 ≤ k) (h1 : k < st.length) (hi : 0 ≤ i) : stAt (st.set k.toNat v) i = if i = k then v else stAt st i := by
  unfold stAt
  by_cases e : i = k
  · rw [if_pos e, e, List.getElem?_set_self (by omega)]; rfl
  · rw [if_neg e, List.getElem?_set_ne (by omega)]
theorem stAt_appl (st : List Int) (k l t : Int) (h0 : 0 ≤ k) (h1 : k < st.length) (hl : l < k) (i : Int) (hi : 0 ≤ i) : stAt (appl st k l t) i = stAt st i + (if i = k then t else if i = l then -t else 0) := by
  unfold appl
  by_cases c : 0 ≤ l
  · rw [if_pos c, stAt_set _ _ _ _ c (by rw [List.length_set]; omega) hi, stAt_set _ _ _ _ h0 h1 hi, stAt_set _ _ _ _ h0 h1 c]
    by_cases e1 : i = k
    · rw [if_neg (by omega), if_pos e1, if_pos e1, e1]
    · by_cases e2 : i = l
      · rw [if_pos e2, if_neg (by omega), if_neg e1, if_pos e2, e2]; try omega
      · rw [if_neg e2, if_neg e1, if_neg e1, if_neg e2]; try omega
  · rw [if_neg c, stAt_set _ _ _ _ h0 h1 hi]
    by_cases e1 : i = k
    · rw [if_pos e1, if_pos e1, e1]
    · rw [if_neg e1, if_neg e1, if_neg (by omega)]; try omega
theorem appl_len (st : List Int) (k l t : Int) : (appl st k l t).length = st.length := by
  unfold appl
  split
  · rw [List.length_set, List.length_set]
  · rw [List.length_set]
/-- the suffix counts of a move -/
theorem sc_move {lim : Int} {gs : List (Int × Int)} (hw : WellOk lim gs) {st : List Int} (hs : st.length = gs.length) {k l t : Int} (h0 : 0 ≤ k) (hk : k < gs.length) (hl : -1 ≤ l) (hlk : l < k) (hlim : wtOf gs k - lim ≤ wtOf gs l) (j : Int) (j0 : 0 ≤ j) (j1 : j < gs.length) :
    scRun lim gs (appl st k l t) j = scRun lim gs st j + (if l < j ∧ j ≤ k then t else 0) :=
  run_move (n := (gs.length : Int)) hk hlk (mv_nocut hw hk hl hlim) (fun i hi => stAt_appl st k l t h0 (by omega) hlk i hi) _ j j0 (by omega)
/-- reachable, by suffix counts -/
def Up (lim : Int) (gs : List (Int × Int)) (st tt : List Int) : Prop := ∀ j : Int, 0 ≤ j → j < gs.length → scRun lim gs st j ≤ scRun lim gs tt j ∧ (cutB lim gs j = true → scRun lim gs st j = scRun lim gs tt j)
theorem Up.refl (lim : Int) (gs : List (Int × Int)) (st : List Int) : Up lim gs st st := fun j _ _ => ⟨Int.le_refl _, fun _ => rfl⟩
theorem Up.trans {lim : Int} {gs : List (Int × Int)} {a b c : List Int} (h : Up lim gs a b) (h' : Up lim gs b c) : Up lim gs a c := fun j h0 h1 => ⟨Int.le_trans (h j h0 h1).1 (h' j h0 h1).1, fun e => ((h j h0 h1).2 e).trans ((h' j h0 h1).2 e)⟩
theorem obs_nil {lim : Int} {gs : List (Int × Int)} {st tt : List Int} : obsL lim gs st tt = [] ↔ Up lim gs st tt := by
  unfold obsL
  rw [List.flatMap_eq_nil_iff]
  have mem : ∀ k : Int, k ∈ rngI 0 gs.length ↔ 0 ≤ k ∧ k < gs.length := by
    have gen : ∀ (n : Nat) (a k : Int), k ∈ rngI a n ↔ a ≤ k ∧ k < a + n := by
      intro n
      induction n with
      | zero => intro a k; simp only [rngI, List.not_mem_nil, false_iff]; omega
      | succ n ih =>
        intro a k
        rw [rngI, List.mem_cons, ih]
        omega
    intro k
    rw [gen]
    omega
  constructor
  · intro h j h0 h1
    have := h j ((mem j).mpr ⟨h0, h1⟩)
    unfold obsAt at this
    split at this
    · cases this
    · rename_i c1
      split at this
      · cases this
      · rename_i c2
        exact ⟨by omega, fun e => by
          have : ¬ scRun lim gs st j < scRun lim gs tt j := fun h => c2 ⟨h, e⟩
          omega⟩
  · intro h k hk
    obtain ⟨h0, h1⟩ := (mem k).mp hk
    obtain ⟨a, b⟩ := h k h0 h1
    unfold obsAt
    rw [if_neg (by omega), if_neg (fun z => by have := b z.2; omega)]
theorem obsF_none {lim : Int} {gs : List (Int × Int)} {st tt : List Int} : PyData.isNone (obsF lim gs st tt) = (obsL lim gs st tt).isEmpty := by
  unfold obsF
  cases e : obsL lim gs st tt with
  | nil => rfl
  | cons o os =>
    obtain ⟨k, h | h⟩ := obsL_mem (z := o) (by rw [e]; simp)
    · rw [h]; rfl
    · rw [h]; rfl
theorem leg_bnd {lim : Int} {gs : List (Int × Int)} {st : List Int} {k l : Int} (h : (k, l) ∈ legMv lim gs st) : 0 ≤ k ∧ k < gs.length ∧ -1 ≤ l ∧ l < k ∧ wtOf gs k - lim ≤ wtOf gs l := by
  have := mvs_mem lim gs _ _ (k, l) (by omega) (List.mem_filter.mp h).1
  simp only [Int.zero_add] at this
  exact this
theorem jump_up {lim : Int} {gs : List (Int × Int)} (hw : WellOk lim gs) {st st' : List Int} {js : List (Int × Int × Int)} (h : JumpTo lim gs st js st') : st.length = gs.length → st'.length = gs.length ∧ Up lim gs st st' := by
  induction h with
  | nil => exact fun h => ⟨h, Up.refl _ _ _⟩
  | snoc hj hm t0 t1 t2 ih =>
    rename_i st1 js k l t
    intro h0
    obtain ⟨a, b⟩ := ih h0
    obtain ⟨k0, k1, l0, l1, hlim⟩ := leg_bnd hm
    refine ⟨by rw [appl_len]; exact a, b.trans fun j j0 j1 => ?_⟩
    have e := sc_move hw a k0 k1 l0 l1 hlim (t := t) j j0 j1
    rw [e]
    by_cases c : l < j ∧ j ≤ k
    · rw [if_pos c]
      exact ⟨by omega, fun h => by rw [mv_nocut hw k1 l0 hlim j c.1 c.2] at h; cases h⟩
    · rw [if_neg c]
      exact ⟨by omega, fun _ => by omega⟩
/-! ### near, a pair -/
def S_law_near : DSp := fun as R Q => ∃ (xs : List PyData) (n lim : Int) (gs : List (Int × Int)) (st : List Int), as = [.o xs, .d (wellD lim gs), .d (stD st)] ∧ Rng xs n ∧ n ≤ 900000000 ∧ WellOk lim gs ∧ StOk gs st ∧
  ∀ st' ys, StOk gs st' → Rng ys (n + 4) → Q (.d (stD st')) [ys]
/-- _law_near -/
def w_law_near : TSd :=
  (sSeq (sSet 3 (dCallN 2 S_law_draw (aCons (aVar 0) (aCons (aOf (dCB lenK (aCons (aVar 2) aNil))) aNil))))
  (sSeq (sSet 4 (dCB min2K (aCons (aOf (dOp ixD (aOf (dOp ixD (aOf (dOp ixD (aVar 1) (aOf (dC (.int 1))))) (aVar 3))) (aOf (dC (.int 1))))) (aCons (aOf (dCB max2K (aCons (aOf (dC (.int 0))) (aCons (aOf (dOp addD (aOf (dOp ixD (aVar 2) (aVar 3))) (aOf (dCallN 2 S_law_pick (aCons (aVar 0) (aCons (aOf (dLst (dCons (dC (.int 1)) (dCons (dUn negD (aOf (dC (.int 1)))) dNil)))) aNil)))))) aNil)))) aNil))))
  (sRet (dOp addD (aOf (dOp addD (aOf (dSl (aVar 2) pNone (pSome (aVar 3)))) (aOf (dTup (dCons (dVar 4) dNil))))) (aOf (dSl (aVar 2) (pSome (aOf (dOp addD (aVar 3) (aOf (dC (.int 1)))))) pNone))))))
theorem cut_to (ns : List Int) (k : Int) (h0 : 0 ≤ k) (h : k ≤ ns.length) : cutD (ilD ns) none (some k) = ilD (ns.take k.toNat) := by
  rw [cut_ints, sIx_i h0]
  show ilD (List.take (min k.toNat ns.length - 0) (List.drop 0 ns)) = _
  rw [Nat.sub_zero, List.drop_zero, show min k.toNat ns.length = k.toNat by omega]
theorem b_law_near (as : List Ag) (m : Addr) (R : RXc) (Q : Rs → List (List PyData) → Prop) (hl : as.length = 3) (h : S_law_near as R Q) : w_law_near (dEnds as m Q noR) (dStart 5 as m) := by
  obtain ⟨xs, n, lim, gs, st, rfl, hr, hn, hw, hs, q⟩ := h
  have sl := hs.len
  have el : (ilD st).length = gs.length := by unfold ilD; rw [List.length_map]; exact sl
  have g0 := hw.ne
  have g1 := hw.len
  unfold w_law_near
  rw [show stD st = .tuple (ilD st) from rfl]
  walk_at "ee"
  rw [el]
  refine ⟨xs, n, (gs.length : Int), rfl, hr, by omega, by omega, by omega, fun k ys k0 k1 hr1 => ?_⟩
  unfold wellD
  walk_at "ee"
  rw [at_grp gs k k0 k1]
  unfold grpD
  walk_at "ee"
  rw [at_st st k k0 (by omega)]
  walk_at "ee"
  refine ⟨ys, _, n + 2, rfl, hr1, by omega, by simp, by simp, fun d ys2 hd hr2 => ?_⟩
  have hd' : ∃ v : Int, d = .int v := by
    simp only [List.mem_cons, List.not_mem_nil, or_false] at hd
    rcases hd with rfl | rfl
    · exact ⟨_, rfl⟩
    · exact ⟨_, rfl⟩
  obtain ⟨v, rfl⟩ := hd'
  walk_at "ee"
  rw [cut_to st k k0 (by omega)]
  have ck : k + 1 = ((k.toNat + 1 : Nat) : Int) := by omega
  rw [ck, cut_from st (k.toNat + 1) (by omega)]
  have l1 : (ilD (st.take k.toNat)).length ≤ 14 := by unfold ilD; rw [List.length_map, List.length_take]; omega
  have l2 : (ilD (st.drop (k.toNat + 1))).length ≤ 14 := by unfold ilD; rw [List.length_map, List.length_drop]; omega
  refine ⟨by omega, ?_⟩
  refine ⟨by rw [List.length_append]; simp only [List.length_cons, List.length_nil]; omega, ?_⟩
  have key : ∀ b : Int, 0 ≤ b → b ≤ szOf gs k → Q (.d (.tuple (ilD (st.take k.toNat) ++ [.int b] ++ ilD (st.drop (k.toNat + 1))))) [ys2] := fun b b0 b1 => by
    have e : ilD (st.take k.toNat) ++ [.int b] ++ ilD (st.drop (k.toNat + 1)) = ilD (st.set k.toNat b) := by
      rw [List.set_eq_take_append_cons_drop, if_pos (by omega)]
      unfold ilD
      simp
    rw [e]
    refine q _ ys2 (stok_set k.toNat b hs b0 fun g hg => ?_) (hr2.up (by omega))
    have : szOf gs k = g.2 := by unfold szOf; rw [hg]; rfl
    omega
  have z0 : 0 ≤ szOf gs k := by
    unfold szOf
    have hk' : k.toNat < gs.length := by omega
    rw [List.getElem?_eq_getElem hk']
    have := hw.sz gs[k.toNat] (List.getElem_mem hk')
    show 0 ≤ (gs[k.toNat]).2
    omega
  refine key _ ?_ ?_
  · split <;> split <;> omega
  · split <;> split <;> omega
def S_law_pair_right : DSp := fun as R Q => ∃ (lim : Int) (gs : List (Int × Int)) (st tt : List Int), as = [.d (wellD lim gs), .d (stD st), .d (stD tt)] ∧ 1 ≤ gs.length ∧ gs.length ≤ 14 ∧ st.length = gs.length ∧ tt.length = gs.length ∧ Q (.d (.bool true)) []
/-- _law_pair_right -/
def w_law_pair_right : TSd :=
  (sSeq (sPar [3, 4] (rCons (dCallN 3 S_law_obstruction (aCons (aOf (dVar 0)) (aCons (aOf (dVar 1)) (aCons (aOf (dVar 2)) aNil)))) (rCons (dCallN 1 S_law_as_lists (aCons (aOf (dVar 0)) aNil)) rNil)))
  (sSeq (sSet 5 (dLst (dCons (dCallN 3 S_obstruction (aCons (aOf (dVar 0)) (aCons (aOf (dVar 1)) (aCons (aOf (dVar 2)) aNil)))) (dCons (dCallK 3 S_obstruction [2, 1, 0] (aCons (aOf (dCB listK (aCons (aVar 2) aNil))) (aCons (aOf (dCB listK (aCons (aVar 1) aNil))) (aCons (aOf (dVar 4)) aNil)))) dNil))))
  (sSeq (sIf (dNot (dTest (dCallN 2 S_law_same (aCons (aOf (dOp addD (aVar 5) (aOf (dLst (dCons (dCallN 3 S_is_reachable (aCons (aOf (dVar 0)) (aCons (aOf (dVar 1)) (aCons (aOf (dVar 2)) aNil)))) dNil))))) (aCons (aOf (dLst (dCons (dVar 3) (dCons (dVar 3) (dCons (dOp isND (aVar 3) (aOf (dC .none))) dNil))))) aNil))))) (sRet (dC (.bool false))) sNext)
  (sRet (dCallN 2 S_law_same (aCons (aOf (dCallN 4 S_is_obstruction (aCons (aOf (dVar 0)) (aCons (aOf (dVar 1)) (aCons (aOf (dVar 2)) (aCons (aOf (dVar 3)) aNil)))))) (aCons (aOf (dOp notND (aVar 3) (aOf (dC .none)))) aNil)))))))
theorem asR_well (lim : Int) (gs : List (Int × Int)) : asR (wellD lim gs) = .f [.int lim, .list (gs.map fun g => .list [.int g.1, .int g.2])] := by
  show Rs.f (asLs [.int lim, .tuple (gs.map grpD)]) = _
  rw [asLs, asLs, asLs]
  show Rs.f [.int lim, .list (asLs (gs.map grpD))] = _
  rw [asL_grps]
theorem asW_is (lim : Int) (gs : List (Int × Int)) : WellIs (.list [.int lim, .list (gs.map fun g => .list [.int g.1, .int g.2])]) lim gs := by
  have := asL_well lim gs
  rw [asR_well] at this
  exact this
theorem obsF_cons {lim : Int} {gs : List (Int × Int)} {st tt : List Int} {o : PyData} {os : List PyData} (e : obsL lim gs st tt = o :: os) : obsF lim gs st tt = o := by unfold obsF; rw [e]
theorem obsF_nil {lim : Int} {gs : List (Int × Int)} {st tt : List Int} (e : obsL lim gs st tt = []) : obsF lim gs st tt = .none := by unfold obsF; rw [e]
theorem obsF_fit (lim : Int) (gs : List (Int × Int)) (st tt : List Int) : (obsF lim gs st tt).depth ≤ 3 ∧ fit (obsF lim gs st tt) = true := by
  cases e : obsL lim gs st tt with
  | nil => rw [obsF_nil e]; exact ⟨by simp [PyData.depth], rfl⟩
  | cons o os =>
    rw [obsF_cons e]
    obtain ⟨k, h | h⟩ := obsL_mem (z := o) (by rw [e]; simp)
    · rw [h]; exact ⟨(lay_ob "fewer" k (by decide +kernel)).2, by
      have c : (PyData.str "fewer").canLay0 = true := by decide +kernel
      simp only [fit, fits, c]; rfl⟩
    · rw [h]; exact ⟨(lay_ob "more" k (by decide +kernel)).2, by
      have c : (PyData.str "more").canLay0 = true := by decide +kernel
      simp only [fit, fits, c]; rfl⟩
theorem obsF_shaped (lim : Int) (gs : List (Int × Int)) (st tt : List Int) : SeqAt.shaped (obsF lim gs st tt) = true := by
  cases e : obsL lim gs st tt with
  | nil => rw [obsF_nil e]; rfl
  | cons o os =>
    rw [obsF_cons e]
    obtain ⟨k, h | h⟩ := obsL_mem (z := o) (by rw [e]; simp)
    · have := lay_ob "fewer" k (by decide +kernel)
      rw [h]; unfold SeqAt.shaped; rw [this.1, Bool.true_and]; exact decide_eq_true (by omega)
    · have := lay_ob "more" k (by decide +kernel)
      rw [h]; unfold SeqAt.shaped; rw [this.1, Bool.true_and]; exact decide_eq_true (by omega)
theorem obsV_F (lim : Int) (gs : List (Int × Int)) (st tt : List Int) : obsV lim gs st tt (obsF lim gs st tt) = !PyData.isNone (obsF lim gs st tt) := by
  cases e : obsL lim gs st tt with
  | nil => rw [obsF_nil e]; rfl
  | cons o os =>
    rw [obsF_cons e]
    obtain ⟨k, h | h⟩ := obsL_mem (z := o) (by rw [e]; simp)
    · rw [h]
      unfold obsV
      rw [e, h, List.any_cons, SeqAt.eqv_refl _ (lay_ob "fewer" k (by decide +kernel)).1]; rfl
    · rw [h]
      unfold obsV
      rw [e, h, List.any_cons, SeqAt.eqv_refl _ (lay_ob "more" k (by decide +kernel)).1]; rfl
theorem b_law_pair_right (as : List Ag) (m : Addr) (R : RXc) (Q : Rs → List (List PyData) → Prop) (hl : as.length = 3) (h : S_law_pair_right as R Q) : w_law_pair_right (dEnds as m Q noR) (dStart 6 as m) := by
  obtain ⟨lim, gs, st, tt, rfl, hne, hg, hs, ht, q⟩ := h
  unfold w_law_pair_right
  walk_at "ee"
  refine ⟨lim, gs, st, tt, rfl, hne, hg, hs, ht, ?_⟩
  walk_at "ee"
  have hwf := well_fit lim gs hg
  refine ⟨_, rfl, hwf.1, hwf.2, ?_⟩
  rw [asR_well]
  walk_at "ee"
  refine ⟨_, _, _, lim, gs, st, tt, rfl, wellD_is lim gs, hg, .inl rfl, hs, .inl rfl, ht, ?_⟩
  rw [show stD st = .tuple (ilD st) from rfl, show stD tt = .tuple (ilD tt) from rfl]
  walk_at "ee"
  refine ⟨_, _, _, lim, gs, st, tt, rfl, asW_is lim gs, hg, .inr rfl, hs, .inr rfl, ht, ?_⟩
  walk_at "ee"
  refine ⟨_, _, _, lim, gs, st, tt, rfl, wellD_is lim gs, hg, .inl rfl, hs, .inl rfl, ht, ?_⟩
  walk_at "ee"
  obtain ⟨f1, f2⟩ := obsF_fit lim gs st tt
  have fd : (PyData.list [obsF lim gs st tt, obsF lim gs st tt, .bool (PyData.isNone (obsF lim gs st tt))]).depth < 12 ∧ fit (.list [obsF lim gs st tt, obsF lim gs st tt, .bool (PyData.isNone (obsF lim gs st tt))]) = true := by
    constructor
    · simp only [PyData.depth, PyData.depthAll]; omega
    · simp only [fit, fits, f2]; rfl
  refine ⟨_, rfl, fd.1, fd.2, ?_⟩
  walk_at "ee"
  refine ⟨_, _, _, _, lim, gs, st, tt, rfl, wellD_is lim gs, hg, .inl rfl, hs, .inl rfl, ht, obsF_shaped _ _ _ _, ?_⟩
  rw [obsV_F]
  walk_at "ee"
  refine ⟨_, rfl, by simp [PyData.depth], rfl, ?_⟩
  walk_at "ee"
  exact q
end LW

namespace LW
open PySem L2 DL
/-! ### data of short ints can be shown -/
mutual
def sml : PyData → Bool
  | .none => true
  | .bool _ => true
  | .int i => decide (i.natAbs < 10 ^ 18)
  | .str x => (PyData.str x).leavesShort 20 && ((PyData.str x).canLay0 && decide (x.cps.size ≤ 61))
  | .list xs => smls xs
  | .tuple xs => smls xs
  | _ => false
def smls : List PyData → Bool
  | [] => true
  | x :: xs => sml x && smls xs
end
mutual
def nds : PyData → Nat
  | .list xs => ndsl xs
  | .tuple xs => ndsl xs
  | _ => 1
def ndsl : List PyData → Nat
  | [] => 0
  | x :: xs => nds x + 1 + ndsl xs
end
theorem log_lt {n : Nat} (h : n < 10 ^ 18) : n.log2 < 60 := by
  by_cases z : n = 0
  · subst z; decide
  · exact (Nat.log2_lt z).mpr (Nat.lt_of_lt_of_le h (by decide))
mutual
theorem sml_ok : ∀ d : PyData, sml d = true → d.showable = true ∧ d.leavesShort 20 = true ∧ d.canLay0 = true ∧ d.weight ≤ 61 * nds d
  | .none, _ => ⟨rfl, rfl, rfl, by simp [PyData.weight]⟩
  | .bool b, _ => ⟨rfl, rfl, rfl, by simp [PyData.weight]⟩
  | .int i, h => by
    simp only [sml, decide_eq_true_eq] at h
    have l := log_lt h
    refine ⟨?_, ?_, rfl, ?_⟩
    · simp only [PyData.showable, decide_eq_true_eq]; omega
    · simp only [PyData.leavesShort, decide_eq_true_eq]
      have e := int_text_length_le10 (k := 18) (by decide) h
      show (Str.ofString (toString i)).length ≤ 20
      rw [ofString_length]; omega
    · simp only [PyData.weight, nds]
      split <;> omega
  | .str x, h => by
    rw [sml, Bool.and_eq_true, Bool.and_eq_true, decide_eq_true_eq] at h
    exact ⟨rfl, h.1, h.2.1, by simp only [PyData.weight, nds]; omega⟩
  | .dict _, h => by simp [sml] at h
  | .list xs, h => by
    have := smls_ok xs (by simpa only [sml] using h)
    exact ⟨by simpa only [PyData.showable] using this.1, by simpa only [PyData.leavesShort] using this.2.1, by simpa only [PyData.canLay0] using this.2.2.1, by simpa only [PyData.weight, nds] using this.2.2.2⟩
  | .tuple xs, h => by
    have := smls_ok xs (by simpa only [sml] using h)
    exact ⟨by simpa only [PyData.showable] using this.1, by simpa only [PyData.leavesShort] using this.2.1, by simpa only [PyData.canLay0] using this.2.2.1, by simpa only [PyData.weight, nds] using this.2.2.2⟩
theorem smls_ok : ∀ xs : List PyData, smls xs = true → PyData.showableAll xs = true ∧ PyData.leavesShortAll 20 xs = true ∧ PyData.canLayAll0 xs = true ∧ PyData.weightAll xs ≤ 61 * ndsl xs
  | [], _ => ⟨rfl, rfl, rfl, by simp [PyData.weightAll]⟩
  | x :: xs, h => by
    simp only [smls, Bool.and_eq_true] at h
    have a := sml_ok x h.1
    have b := smls_ok xs h.2
    refine ⟨by simp only [PyData.showableAll, a.1, b.1]; rfl, by simp only [PyData.leavesShortAll, a.2.1, b.2.1]; rfl, by simp only [PyData.canLayAll0, a.2.2.1, b.2.2.1]; rfl, ?_⟩
    simp only [PyData.weightAll, ndsl]
    have := a.2.2.2
    have := b.2.2.2
    omega
end
theorem repr_ok {d : PyData} (h : sml d = true) (hd : d.depth ≤ 12) (hn : nds d ≤ 10000) (k : Rs → Prop) (q : k (.d (.str d.shown))) : reprK [d] k := by
  obtain ⟨a, b, c, e⟩ := sml_ok d h
  have := PyData.shown_le 20 (by decide) d b
  refine ⟨a, ?_, by omega, q⟩
  unfold SeqAt.shaped
  rw [c, Bool.true_and]
  exact decide_eq_true (by omega)
theorem repr_facts {d : PyData} (h : sml d = true) (hd : d.depth ≤ 12) (hn : nds d ≤ 10000) : d.showable = true ∧ SeqAt.shaped d = true ∧ d.shown.length ≤ 16777216 := by
  obtain ⟨a, b, c, e⟩ := sml_ok d h
  have := PyData.shown_le 20 (by decide) d b
  refine ⟨a, ?_, by omega⟩
  unfold SeqAt.shaped
  rw [c, Bool.true_and]
  exact decide_eq_true (by omega)
theorem smls_map {α : Type} (f : α → PyData) (xs : List α) (h : ∀ x ∈ xs, sml (f x) = true) : smls (xs.map f) = true := by
  induction xs with
  | nil => rfl
  | cons x xs ih => rw [List.map_cons, smls, h x (by simp), ih fun y m => h y (by simp [m])]; rfl
theorem ndsl_map {α : Type} (f : α → PyData) (n : Nat) (xs : List α) (h : ∀ x ∈ xs, nds (f x) ≤ n) : ndsl (xs.map f) ≤ (n + 1) * xs.length := by
  induction xs with
  | nil => simp [ndsl]
  | cons x xs ih =>
    have a := h x (by simp)
    have b := ih fun y m => h y (by simp [m])
    rw [List.map_cons, ndsl, List.length_cons, Nat.mul_add, Nat.mul_one]
    omega
theorem sml_int {i : Int} (h : i.natAbs < 10 ^ 18) : sml (.int i) = true := decide_eq_true h
theorem well_sml {lim : Int} {gs : List (Int × Int)} (hw : WellOk lim gs) : sml (wellD lim gs) = true ∧ nds (wellD lim gs) ≤ 200 := by
  have l0 := hw.l0
  have l1 := hw.l1
  constructor
  · unfold wellD
    simp only [sml, smls, Bool.and_true, Bool.and_eq_true, decide_eq_true_eq]
    refine ⟨by omega, smls_map grpD gs fun g hg => ?_⟩
    have a := hw.wt g hg
    have b := hw.sz g hg
    unfold grpD
    simp only [sml, smls, Bool.and_true, Bool.and_eq_true, decide_eq_true_eq]
    exact ⟨by omega, by omega⟩
  · have := ndsl_map grpD 4 gs fun g _ => by unfold grpD; simp [nds, ndsl]
    have := hw.len
    unfold wellD
    simp only [nds, ndsl]
    omega
theorem st_sml {gs : List (Int × Int)} {st : List Int} (hs : StOk gs st) (hz : ∀ g ∈ gs, 1 ≤ g.2 ∧ g.2 ≤ 10000000000000) (hl : gs.length ≤ 14) : sml (stD st) = true ∧ nds (stD st) ≤ 200 := by
  have hm := hs.mod hz
  have sl := hs.len
  constructor
  · unfold stD ilD
    rw [sml]
    refine smls_map _ st fun z hz' => sml_int ?_
    have := hm z hz'
    omega
  · have := ndsl_map PyData.int 1 st fun g _ => by simp [nds]
    unfold stD ilD
    rw [nds]
    omega
end LW

namespace LW
open PySem L2 DL
local macro_rules | `(tactic| walk_at "ee") => `(tactic| simp only [↓asB_b, ↓with1_s, ↓with2_s, ↓asI_s, ↓withL_s, ↓withA_s, ↓putI_s, ↓subI_s, ↓as2I_s, ↓appV_s, ↓isO_o, ↓ev_var, ↓ev_vd, ↓ev_vo, ↓ev_c, ↓ev_avar, ↓ev_ad, ↓ev_ao, ↓ev_kz, ↓ev_of, ↓ev_kof, ↓ev_op, ↓ev_op1, ↓ev_op2, ↓ev_op3, ↓ev_un, ↓ev_un1, ↓ev_un2, ↓ev_test, ↓ev_ktest, ↓ev_and, ↓ev_kandT, ↓ev_kandF, ↓ev_or, ↓ev_korT, ↓ev_korF, ↓ev_not, ↓ev_knot, ↓ev_andV, ↓ev_kandV, ↓ev_kandVT, ↓ev_kandVF, ↓ev_orV, ↓ev_korV, ↓ev_korVT, ↓ev_korVF, ↓ev_notV, ↓ev_knotV, ↓ev_knotV2, ↓ev_ifE, ↓ev_kifET, ↓ev_kifEF, ↓ev_chain, ↓ev_ch1, ↓ev_ch2, ↓ev_ch2b, ↓ev_ch3, ↓ev_ch4T, ↓ev_ch4F, ↓ev_ch5, ↓ev_ch6, ↓ev_nil, ↓ev_cons, ↓ev_kcons, ↓ev_kcons2, ↓ev_lst, ↓ev_klst, ↓ev_tup, ↓ev_ktup, ↓ev_rnil, ↓ev_rcons, ↓ev_krcons, ↓ev_krcons2, ↓ev_anil, ↓ev_acons, ↓ev_kacons, ↓ev_kacons2, ↓ev_pnone, ↓ev_psome, ↓ev_kp, ↓ev_kp2, ↓ev_sl, ↓ev_sl1, ↓ev_sl2, ↓ev_sl3, ↓ev_sl4, ↓ev_slL, ↓ev_slT, ↓ev_cb, ↓ev_kcb, ↓ev_kcb2, ↓ev_isi, ↓ev_kisi, ↓ev_kisi2, ↓ev_call, ↓ev_kcall, ↓ev_callK, ↓ev_kcallK, ↓ev_kq, ↓ev_comp, ↓ev_kcomp, ↓ev_kcompE, ↓ev_compN, ↓ev_compC, ↓ev_kc1, ↓ev_kc2T, ↓ev_kc2F, ↓ev_kc3, ↓ev_yes, ↓ev_gn, ↓ev_gnil, ↓ev_gcons, ↓ev_kg, ↓ev_gtup, ↓ev_seqT, ↓ev_seqL, ↓ev_sub, ↓ev_ksub, ↓ev_iseq, ↓ev_kiseq, ↓ev_seqVL, ↓ev_seqVT, ↓ev_kqd, ↓ev_rg1, ↓ev_krg1, ↓ev_krg1b, ↓ev_rg2, ↓ev_krg2, ↓ev_krg2b, ↓ev_krg2c, ↓ev_en, ↓ev_ken, ↓ev_enL, ↓ev_zp, ↓ev_kzp, ↓ev_kzp2, ↓ev_zpL, ↓ev_zpT, ↓ev_zpLT, ↓ev_zpTL, ↓ev_snext, ↓ev_sseq, ↓ev_knx, ↓nx_set, ↓rt_set, ↓bk_set, ↓ct_set, ↓ex_set, ↓nx_for, ↓rt_for, ↓bk_for, ↓ct_for, ↓ex_for, ↓nx_end, ↓rt_end, ↓ex_end, ↓ev_sbrk, ↓ev_scont, ↓ev_sdrop, ↓ev_kdrop, ↓ev_sret, ↓ev_sretN, ↓ev_sif, ↓ev_kifT, ↓ev_kifF, ↓ev_sset, ↓ev_kset, ↓ev_sasg, ↓ev_kasg, ↓ev_saug, ↓ev_kaug, ↓ev_kaug2, ↓ev_kaug3, ↓ev_sapp, ↓ev_kapp, ↓ev_spar, ↓ev_kpar, ↓ev_sfor, ↓ev_kfori, ↓ev_forN, ↓ev_forC, ↓ev_kfor, ↓o_addI, ↓o_addL, ↓o_addT, ↓o_addS, ↓o_sub, ↓o_iadd, ↓o_mod, ↓o_fdiv, ↓o_pow, ↓o_mulI, ↓o_mulL, ↓o_mulT, ↓o_lt, ↓o_le, ↓o_gt, ↓o_ge, ↓o_isB, ↓o_notB, ↓o_isN, ↓o_notN, ↓n_none, ↓n_int, ↓n_bool, ↓n_str, ↓n_list, ↓n_tup, ↓o_neg, ↓o_rev, ↓ixV_s, ↓o_ixL, ↓o_ixT, ↓c_abs, ↓c_intI, ↓c_intB, ↓c_lenL, ↓c_lenT, ↓c_max2, ↓c_min2, ↓c_listL, ↓c_listT, ↓c_tupL, ↓c_tupT, ↓c_divmod, ↓c_str, ↓c_sum1, ↓c_sumT1, ↓c_max1, ↓c_min1, ↓c_all1, ↓c_any1, ↓g_0, ↓g_s, ↓s_0, ↓s_s, ↓v_un, ↓v_d, ↓v_o, ↓res_x, ↓res_v, ↓val_d, ↓val_f, ↓sl_d, ↓sl_f, ↓ag_d, ↓ag_o, ↓cons?_s, ↓ra_nil, ↓cons2?_s, ↓ra_cons, ↓ag_nil, ↓ag_x, ↓agV_s, ↓ag_v, ↓nr_nil, ↓nr_x, ↓nrV_d, ↓nrV_o, ↓nr_v, ↓vx_nil, ↓vx_x, ↓vx_v, ↓putV_o, ↓pb_0, ↓pb_1, ↓pl_nil, ↓pl_0, ↓pl_1, ↓pl_2, ↓pl_3, ↓rd_0, ↓bx_nil, ↓bx_d, ↓bx_o, ↓rd_o, ↓kd_un, ↓kd_d, ↓sa_nil, ↓sa_cons, ↓wp_nil, ↓wp_cons, ↓rs_nil, ↓rs_cons, ↓ev_lc2, ↓ev_klc2, ↓ev_c2N, ↓ev_c2C, ↓ev_k21, ↓ev_k22T, ↓ev_k22F, ↓ev_k23, ↓ev_k24, ↓c_repr, ↓c_sort, ↓ev_callP, ↓ev_peek, ↓ev_peek2, ↓ev_scal, ↓ev_callF, ↓ev_knew, ↓ev_kdat, ↓c_listS, ↓c_tupS, ↓c_lenS, ↓o_well0, ↓o_well1, ↓seqT_g, ↓o_grp0, ↓o_grp1, ↓seqT_m, ↓o_mv0, ↓o_mv1, ↓o_st, ↓ev_lz, ↓ev_klz, ↓ev_klz2, ↓ev_klz3, ↓ev_tru, ↓ev_ktruB, ↓ev_ktruL, ↓ev_ktruF, ↓ev_nest, ↓ev_knest, Rs.val, Rs.sl, Ag.sl, Opd.res, Sl.val, Sl.keepD, isD_n, isD_b, isD_i, isD_s, isD_l, isD_t, eq_self, eqD_int, neD_int, eqD_ll, neD_ll, eqD_tt, neD_tt, eqD_bb, neD_bb, eqD_ss, neD_ss, atI_0, atI_1, atI_2, atI_3, ixN_1_0, ixN_2_0, ixN_2_1, ixN_3_0, ixN_3_1, ixN_3_2, ixN_4_0, ixN_4_1, ixN_4_2, ixN_4_3, dStart, repUn, tYesD, List.map_cons, List.map_nil, List.cons_append, List.nil_append, List.length_cons, List.length_nil, true_and, and_true, ne_eq, not_false_eq_true, reduceCtorEq, Option.some.injEq, Option.map_none, Option.map_some, Nat.reduceAdd, Nat.reduceSub, Nat.reduceLT, Nat.reduceLeDiff, Nat.zero_lt_succ, Nat.le_refl, Bool.not_true, Bool.not_false, decide_true, decide_false, Int.reduceLE, Int.reduceLT, Int.reduceEq, Int.toNat_zero, Int.reduceToNat, Int.reducePow, Int.reduceNeg, Int.toNat_one, List.set_cons_zero, List.set_cons_succ, List.not_mem_nil, List.mem_cons, false_or, or_false, forall_eq, forall_eq_or_imp, if_true, if_false, ite_true, ite_false, Bool.false_eq_true, forall_const, implies_true, false_implies])
/-! ### crossings -/
def crs (lim : Int) (gs : List (Int × Int)) (st tt : List Int) : List Int := (rngI 0 gs.length).map fun k => scRun lim gs tt k - scRun lim gs st k
theorem crs_len (lim : Int) (gs : List (Int × Int)) (st tt : List Int) : (crs lim gs st tt).length = gs.length := by unfold crs; rw [List.length_map, rngI_len]
def S_crossings : DSp := fun as R Q => ∃ (x y z : PyData) (lim : Int) (gs : List (Int × Int)) (st tt : List Int), as = [.d x, .d y, .d z] ∧ WellIs x lim gs ∧ gs.length ≤ 14 ∧ SeqIs y (ilD st) ∧ st.length = gs.length ∧ SeqIs z (ilD tt) ∧ tt.length = gs.length ∧ Up lim gs st tt ∧ Q (.d (stD (crs lim gs st tt))) []
/-- crossings -/
def w_crossings_g1 : TGd :=
  (gTupD 2 (gConsD (gN 4) (gConsD (gN 5) gNilD)))
def w_crossings_e1 : TD :=
  (dOp subD (aVar 5) (aVar 4))
def w_crossings : TSd :=
  (sSeq (sSet 3 (dCallN 3 S_obstruction (aCons (aOf (dVar 0)) (aCons (aOf (dVar 1)) (aCons (aOf (dVar 2)) aNil)))))
  (sSeq (sIf (dTest (dOp notND (aVar 3) (aOf (dC .none)))) sNever sNext)
  (sRet (dCB tupleK (aCons (aOf (dComp [4, 5] (iSeq (dCallN 3 S_count_pairs (aCons (aOf (dVar 0)) (aCons (aOf (dVar 1)) (aCons (aOf (dVar 2)) aNil))))) w_crossings_g1 tYesD w_crossings_e1)) aNil)))))
theorem cr_loop (f g : Int → Int) (s0 s1 s2 s3 : Sl) (Q : List PyData → DSt → Prop) : ∀ (n : Nat) (k : Int) (acc : List Int) (s4 s5 : Sl), acc.length + n ≤ 1000 →
    (∀ s4 s5, Q (ilD (acc ++ (rngI k n).map fun k => g k - f k)) [s0, s1, s2, s3, s4, s5]) →
    compD [4, 5] w_crossings_g1 tYesD w_crossings_e1 ((rngI k n).map fun k => .tuple [.int (f k), .int (g k)]) (ilD acc) [s0, s1, s2, s3, s4, s5] Q := by
  intro n
  induction n with
  | zero => intro k acc s4 s5 _ q; simp only [rngI, List.map_nil, List.append_nil] at q; exact q _ _
  | succ n ih =>
    intro k acc s4 s5 h q
    rw [rngI, List.map_cons, ev_compC]
    unfold w_crossings_g1 w_crossings_e1
    walk_at "ee"
    refine ⟨by unfold ilD; rw [List.length_map]; omega, ?_⟩
    have := ih (k + 1) (acc ++ [g k - f k]) (.d (.int (f k))) (.d (.int (g k))) (by simp only [List.length_append, List.length_cons, List.length_nil]; omega) (fun s4 s5 => by rw [List.append_assoc]; exact q s4 s5)
    unfold ilD at this ⊢
    rw [List.map_append] at this
    exact this
theorem b_crossings (as : List Ag) (m : Addr) (R : RXc) (Q : Rs → List (List PyData) → Prop) (hl : as.length = 3) (h : S_crossings as R Q) : w_crossings (dEnds as m Q noR) (dStart 6 as m) := by
  obtain ⟨x, y, z, lim, gs, st, tt, rfl, hx, hg, hy, hs, hz, ht, up, q⟩ := h
  unfold w_crossings
  walk_at "ee"
  refine ⟨x, y, z, lim, gs, st, tt, rfl, hx, hg, hy, hs, hz, ht, ?_⟩
  rw [obsF_nil (obs_nil.mpr up)]
  walk_at "ee"
  refine ⟨x, y, z, lim, gs, st, tt, rfl, hx, hg, hy, hs, hz, ht, ?_⟩
  unfold scOf
  rw [zip_rng]
  walk_at "ee"
  refine cr_loop _ _ _ _ _ _ _ gs.length 0 [] _ _ (by simp only [List.length_nil]; omega) (fun s4 s5 => ?_)
  rw [List.nil_append]
  walk_at "ee"
  exact q
def S_max_moves : DSp := fun as R Q => ∃ (x y z : PyData) (lim : Int) (gs : List (Int × Int)) (st tt : List Int), as = [.d x, .d y, .d z] ∧ WellIs x lim gs ∧ gs.length ≤ 14 ∧ SeqIs y (ilD st) ∧ st.length = gs.length ∧ SeqIs z (ilD tt) ∧ tt.length = gs.length ∧ Up lim gs st tt ∧ Q (.d (.int (crs lim gs st tt).sum)) []
/-- max_moves -/
def w_max_moves : TSd :=
  (sRet (dCB sumK (aCons (aOf (dCallN 3 S_crossings (aCons (aOf (dVar 0)) (aCons (aOf (dVar 1)) (aCons (aOf (dVar 2)) aNil))))) aNil)))
theorem b_max_moves (as : List Ag) (m : Addr) (R : RXc) (Q : Rs → List (List PyData) → Prop) (hl : as.length = 3) (h : S_max_moves as R Q) : w_max_moves (dEnds as m Q noR) (dStart 3 as m) := by
  obtain ⟨x, y, z, lim, gs, st, tt, rfl, hx, hg, hy, hs, hz, ht, up, q⟩ := h
  unfold w_max_moves
  walk_at "ee"
  refine ⟨x, y, z, lim, gs, st, tt, rfl, hx, hg, hy, hs, hz, ht, up, ?_⟩
  unfold stD
  walk_at "ee"
  exact ⟨_, rfl, q⟩
def S_law_crossings : DSp := fun as R Q => ∃ (lim : Int) (gs : List (Int × Int)) (st tt : List Int), as = [.d (wellD lim gs), .d (stD st), .d (stD tt)] ∧ gs.length ≤ 14 ∧ st.length = gs.length ∧ tt.length = gs.length ∧ Q (.f (ilD (crs lim gs st tt))) []
/-- _law_crossings -/
def w_law_crossings_g1 : TGd :=
  (gTupD 2 (gConsD (gN 3) (gConsD (gN 4) gNilD)))
def w_law_crossings_e1 : TD :=
  (dOp subD (aVar 4) (aVar 3))
def w_law_crossings : TSd :=
  (sRet (dComp [3, 4] (iZipD (dCallN 2 S_law_suffix_counts (aCons (aOf (dVar 0)) (aCons (aOf (dVar 1)) aNil))) (dCallN 2 S_law_suffix_counts (aCons (aOf (dVar 0)) (aCons (aOf (dVar 2)) aNil)))) w_law_crossings_g1 tYesD w_law_crossings_e1))
theorem lcr_loop (f g : Int → Int) (s0 s1 s2 : Sl) (Q : List PyData → DSt → Prop) : ∀ (n : Nat) (k : Int) (acc : List Int) (s4 s5 : Sl), acc.length + n ≤ 1000 →
    (∀ s4 s5, Q (ilD (acc ++ (rngI k n).map fun k => g k - f k)) [s0, s1, s2, s4, s5]) →
    compD [3, 4] w_law_crossings_g1 tYesD w_law_crossings_e1 ((rngI k n).map fun k => .tuple [.int (f k), .int (g k)]) (ilD acc) [s0, s1, s2, s4, s5] Q := by
  intro n
  induction n with
  | zero => intro k acc s4 s5 _ q; simp only [rngI, List.map_nil, List.append_nil] at q; exact q _ _
  | succ n ih =>
    intro k acc s4 s5 h q
    rw [rngI, List.map_cons, ev_compC]
    unfold w_law_crossings_g1 w_law_crossings_e1
    walk_at "ee"
    refine ⟨by unfold ilD; rw [List.length_map]; omega, ?_⟩
    have := ih (k + 1) (acc ++ [g k - f k]) (.d (.int (f k))) (.d (.int (g k))) (by simp only [List.length_append, List.length_cons, List.length_nil]; omega) (fun s4 s5 => by rw [List.append_assoc]; exact q s4 s5)
    unfold ilD at this ⊢
    rw [List.map_append] at this
    exact this
theorem b_law_crossings (as : List Ag) (m : Addr) (R : RXc) (Q : Rs → List (List PyData) → Prop) (hl : as.length = 3) (h : S_law_crossings as R Q) : w_law_crossings (dEnds as m Q noR) (dStart 5 as m) := by
  obtain ⟨lim, gs, st, tt, rfl, hg, hs, ht, q⟩ := h
  unfold w_law_crossings
  walk_at "ee"
  refine ⟨lim, gs, st, rfl, hg, hs, ?_⟩
  walk_at "ee"
  refine ⟨lim, gs, tt, rfl, hg, ht, ?_⟩
  rw [show stD (scOf lim gs st) = .tuple (ilD (scOf lim gs st)) from rfl, show stD (scOf lim gs tt) = .tuple (ilD (scOf lim gs tt)) from rfl]
  walk_at "ee"
  unfold scOf
  rw [zip_rng]
  refine lcr_loop _ _ _ _ _ _ gs.length 0 [] _ _ (by simp only [List.length_nil]; omega) (fun s4 s5 => ?_)
  rw [List.nil_append]
  walk_at "ee"
  exact q
theorem jump_sum {lim : Int} {gs : List (Int × Int)} (hw : WellOk lim gs) {st st' : List Int} {js : List (Int × Int × Int)} (h : JumpTo lim gs st js st') : st.length = gs.length → ∀ j : Int, 0 ≤ j → j < gs.length → ((js.filter fun q => decide (q.2.1 < j ∧ j ≤ q.1)).map fun q => q.2.2).sum = scRun lim gs st' j - scRun lim gs st j := by
  induction h with
  | nil => intro _ j _ _; simp
  | snoc hj hm t0 t1 t2 ih =>
    rename_i st1 js k l t
    intro h0 j j0 j1
    obtain ⟨a, _⟩ := jump_up hw hj h0
    obtain ⟨k0, k1, l0, l1, hlim⟩ := leg_bnd hm
    rw [sc_move hw a k0 k1 l0 l1 hlim j j0 j1, List.filter_append, List.map_append, List.sum_append, ih h0 j j0 j1]
    by_cases c : l < j ∧ j ≤ k
    · rw [if_pos c, List.filter_cons, if_pos (by simpa using c)]
      simp
      omega
    · rw [if_neg c, List.filter_cons, if_neg (by simpa using c)]
      simp
end LW

namespace LW
open PySem L2 DL
/-! ### moves between neighbours lead to each reachable state -/
theorem sc_step (lim : Int) (gs : List (Int × Int)) (st : List Int) (k : Int) (h : k < gs.length) : scRun lim gs st k = stAt st k + (if cutB lim gs (k + 1) = true then 0 else scRun lim gs st (k + 1)) := by
  show runS _ _ k ((gs.length : Int) - k).toNat = _
  have e : ((gs.length : Int) - k).toNat = ((gs.length : Int) - (k + 1)).toNat + 1 := by omega
  rw [e, runS]
theorem sc_end (lim : Int) (gs : List (Int × Int)) (st : List Int) : scRun lim gs st gs.length = 0 := by
  show runS _ _ _ ((gs.length : Int) - gs.length).toNat = _
  rw [Int.sub_self]; rfl
theorem lows_in (gs : List (Int × Int)) (k least : Int) : ∀ (n : Nat) (lo l : Int), lo ≤ l → l < lo + n → least ≤ wtOf gs l → (k, l) ∈ lowsOf gs k least lo n
  | 0, lo, l, h, h', _ => by omega
  | n + 1, lo, l, h, h', hl => by
    rw [lowsOf]
    by_cases e : l = lo
    · rw [← e, if_pos hl]; exact List.mem_cons_self
    · have := lows_in gs k least n (lo + 1) l (by omega) (by omega) hl
      split
      · exact List.mem_cons_of_mem _ this
      · exact this
theorem mvs_in (lim : Int) (gs : List (Int × Int)) : ∀ (n : Nat) (a k l : Int), 0 ≤ a → a ≤ k → k < a + n → -1 ≤ l → l < k → wtOf gs k - lim ≤ wtOf gs l → (k, l) ∈ mvsFrom lim gs a n
  | 0, a, k, l, _, h, h', _, _, _ => by omega
  | n + 1, a, k, l, h0, h, h', l0, l1, hl => by
    rw [mvsFrom]
    by_cases e : k = a
    · rw [← e]
      exact List.mem_append.mpr (.inl (lows_in gs k _ _ _ l (by omega) (by omega) hl))
    · exact List.mem_append.mpr (.inr (mvs_in lim gs n (a + 1) k l (by omega) (by omega) (by omega) l0 l1 hl))
theorem leg_in {lim : Int} {gs : List (Int × Int)} {st : List Int} {k l : Int} (h0 : 0 ≤ k) (h1 : k < gs.length) (l0 : -1 ≤ l) (l1 : l < k) (hl : wtOf gs k - lim ≤ wtOf gs l) (hk : stAt st k < szOf gs k) (hl' : l < 0 ∨ 0 < stAt st l) : (k, l) ∈ legMv lim gs st := by
  refine List.mem_filter.mpr ⟨mvs_in lim gs gs.length 0 k l (by decide) h0 (by omega) l0 l1 hl, ?_⟩
  unfold isLegal
  rw [Bool.and_eq_true, Bool.or_eq_true]
  exact ⟨decide_eq_true hk, hl'.elim (fun h => .inl (decide_eq_true h)) (fun h => .inr (decide_eq_true h))⟩
theorem stok_stAt {gs : List (Int × Int)} {st : List Int} (h : StOk gs st) (k : Int) (h0 : 0 ≤ k) (h1 : k < gs.length) : 0 ≤ stAt st k ∧ stAt st k ≤ szOf gs k := by
  have := stok_at k.toNat h
  have hk : k.toNat < gs.length := by omega
  have e := List.getElem?_eq_getElem hk
  unfold stAt szOf
  rw [e]
  exact ⟨this.1, this.2 _ e⟩
theorem sz_pos {lim : Int} {gs : List (Int × Int)} (hw : WellOk lim gs) (k : Int) (h0 : 0 ≤ k) (h1 : k < gs.length) : 1 ≤ szOf gs k ∧ szOf gs k ≤ 10000000000000 := by
  have hk : k.toNat < gs.length := by omega
  have e := List.getElem?_eq_getElem hk
  unfold szOf
  rw [e]
  exact hw.sz _ (List.getElem_mem hk)
theorem lay_top {lim : Int} {gs : List (Int × Int)} {st tt : List Int} (ht : StOk gs tt) : ∀ (m : Nat) (k : Int), 0 ≤ k → k + m = gs.length → scRun lim gs st k < scRun lim gs tt k → ∃ k' : Int, 0 ≤ k' ∧ k' < gs.length ∧ scRun lim gs st k' < scRun lim gs tt k' ∧ stAt st k' < szOf gs k' := by
  intro m
  induction m with
  | zero =>
    intro k h0 h h'
    have e : k = gs.length := by omega
    rw [e, sc_end, sc_end] at h'
    omega
  | succ m ih =>
    intro k h0 h h'
    have b := stok_stAt ht k h0 (by omega)
    by_cases c : stAt st k < stAt tt k
    · exact ⟨k, h0, by omega, h', by omega⟩
    · have h2 := h'
      rw [sc_step lim gs st k (by omega), sc_step lim gs tt k (by omega)] at h2
      refine ih (k + 1) (by omega) (by omega) ?_
      split at h2 <;> omega
theorem lay_down {lim : Int} {gs : List (Int × Int)} (hw : WellOk lim gs) {st tt : List Int} (hs : StOk gs st) (ht : StOk gs tt) (up : Up lim gs st tt) : ∀ (m : Nat) (k : Int), k = m → k < gs.length → scRun lim gs st k < scRun lim gs tt k → stAt st k < szOf gs k → ∃ j : Int, (j, j - 1) ∈ legMv lim gs st ∧ scRun lim gs st j < scRun lim gs tt j := by
  intro m
  induction m with
  | zero =>
    intro k e h h' hk
    have nc : cutB lim gs k = false := by
      cases c : cutB lim gs k with
      | false => rfl
      | true => have := (up k (by omega) h).2 c; omega
    unfold cutB at nc
    have nc := of_decide_eq_false nc
    exact ⟨k, leg_in (by omega) h (by omega) (by omega) (by omega) hk (.inl (by omega)), h'⟩
  | succ m ih =>
    intro k e h h' hk
    have nc : cutB lim gs k = false := by
      cases c : cutB lim gs k with
      | false => rfl
      | true => have := (up k (by omega) h).2 c; omega
    have nc' := nc
    unfold cutB at nc'
    have nc' := of_decide_eq_false nc'
    by_cases c : 0 < stAt st (k - 1)
    · exact ⟨k, leg_in (by omega) h (by omega) (by omega) (by omega) hk (.inr c), h'⟩
    · have b := stok_stAt ht (k - 1) (by omega) (by omega)
      have z := sz_pos hw (k - 1) (by omega) (by omega)
      refine ih (k - 1) (by omega) (by omega) ?_ (by omega)
      rw [sc_step lim gs st (k - 1) (by omega), sc_step lim gs tt (k - 1) (by omega), show k - 1 + 1 = k by omega, nc]
      simp only [Bool.false_eq_true, if_false]
      omega
theorem sum_pos_ex (f : Int → Int) : ∀ (n : Nat) (a : Int), 0 < ((rngI a n).map f).sum → ∃ k, a ≤ k ∧ k < a + n ∧ 0 < f k
  | 0, a, h => by simp [rngI] at h
  | n + 1, a, h => by
    rw [rngI, List.map_cons, List.sum_cons] at h
    by_cases c : 0 < f a
    · exact ⟨a, by omega, by omega, c⟩
    · obtain ⟨k, h1, h2, h3⟩ := sum_pos_ex f n (a + 1) (by omega)
      exact ⟨k, by omega, by omega, h3⟩
theorem sum_zero_all (f : Int → Int) : ∀ (n : Nat) (a : Int), (∀ k, a ≤ k → k < a + n → 0 ≤ f k) → 0 ≤ ((rngI a n).map f).sum ∧ (((rngI a n).map f).sum = 0 → ∀ k, a ≤ k → k < a + n → f k = 0)
  | 0, a, h => ⟨by simp [rngI], fun _ k h1 h2 => by omega⟩
  | n + 1, a, h => by
    have h0 := h a (by omega) (by omega)
    obtain ⟨i1, i2⟩ := sum_zero_all f n (a + 1) (fun k h1 h2 => h k (by omega) (by omega))
    rw [rngI, List.map_cons, List.sum_cons]
    refine ⟨by omega, fun e k h1 h2 => ?_⟩
    by_cases c : k = a
    · rw [c]; omega
    · exact i2 (by omega) k (by omega) (by omega)
theorem sum_le_all (f : Int → Int) (B : Int) : ∀ (n : Nat) (a : Int), (∀ k, a ≤ k → k < a + n → f k ≤ B) → ((rngI a n).map f).sum ≤ n * B
  | 0, a, h => by simp [rngI]
  | n + 1, a, h => by
    have h0 := h a (by omega) (by omega)
    have := sum_le_all f B n (a + 1) (fun k h1 h2 => h k (by omega) (by omega))
    rw [rngI, List.map_cons, List.sum_cons]
    have e : ((n + 1 : Nat) : Int) * B = n * B + B := by rw [Int.natCast_add, Int.add_mul]; omega
    omega
theorem sum_less (f g : Int → Int) (k : Int) (h : ∀ j, g j = f j - (if j = k then 1 else 0)) : ∀ (n : Nat) (a : Int), ((rngI a n).map g).sum = ((rngI a n).map f).sum - (if a ≤ k ∧ k < a + n then 1 else 0)
  | 0, a => by rw [if_neg (by omega)]; rfl
  | n + 1, a => by
    rw [rngI, List.map_cons, List.map_cons, List.sum_cons, List.sum_cons, sum_less f g k h n (a + 1), h a]
    by_cases c : a = k
    · rw [if_pos c, if_neg (by omega), if_pos (by omega)]; omega
    · rw [if_neg c]
      by_cases d : a + 1 ≤ k ∧ k < a + 1 + n
      · rw [if_pos d, if_pos (by omega)]; omega
      · rw [if_neg d, if_neg (by omega)]; omega
theorem sum_same (f g : Int → Int) : ∀ (n : Nat) (a : Int), (∀ j, a ≤ j → j < a + n → f j = g j) → (rngI a n).map f = (rngI a n).map g
  | 0, a, _ => rfl
  | n + 1, a, h => by rw [rngI, List.map_cons, List.map_cons, h a (by omega) (by omega), sum_same f g n (a + 1) (fun j h1 h2 => h j (by omega) (by omega))]
theorem crs_pos {lim : Int} {gs : List (Int × Int)} {st tt : List Int} (up : Up lim gs st tt) : 0 ≤ (crs lim gs st tt).sum ∧ ((crs lim gs st tt).sum = 0 → ∀ k : Int, 0 ≤ k → k < gs.length → scRun lim gs tt k - scRun lim gs st k = 0) := by
  have := sum_zero_all (fun k => scRun lim gs tt k - scRun lim gs st k) gs.length 0 (fun k h1 h2 => by have := (up k h1 (by omega)).1; omega)
  exact ⟨this.1, fun e k h1 h2 => this.2 e k h1 (by omega)⟩
/-- equal suffix counts, equal states -/
theorem st_ext {gs : List (Int × Int)} {st tt : List Int} (hs : st.length = gs.length) (ht : tt.length = gs.length) (h : ∀ k : Int, 0 ≤ k → k < gs.length → stAt st k = stAt tt k) : st = tt := by
  have a := map_stAt st
  have b := map_stAt tt
  rw [← a, ← b, hs, ht]
  exact sum_same _ _ _ _ (fun j h1 h2 => h j h1 (by omega))
theorem sc_inj {lim : Int} {gs : List (Int × Int)} {st tt : List Int} (hs : st.length = gs.length) (ht : tt.length = gs.length) (h : ∀ k : Int, 0 ≤ k → k < gs.length → scRun lim gs tt k - scRun lim gs st k = 0) : st = tt := by
  refine st_ext hs ht fun k h0 h1 => ?_
  have a := h k h0 h1
  rw [sc_step lim gs st k h1, sc_step lim gs tt k h1] at a
  by_cases e : k + 1 = gs.length
  · rw [e, sc_end, sc_end] at a
    split at a <;> omega
  · have b := h (k + 1) (by omega) (by omega)
    split at a <;> omega
theorem lay_ex {lim : Int} {gs : List (Int × Int)} (hw : WellOk lim gs) {st tt : List Int} (hs : StOk gs st) (ht : StOk gs tt) (up : Up lim gs st tt) (h : 0 < (crs lim gs st tt).sum) : ∃ j : Int, (j, j - 1) ∈ legMv lim gs st ∧ scRun lim gs st j < scRun lim gs tt j := by
  obtain ⟨k, h1, h2, h3⟩ := sum_pos_ex _ _ _ h
  obtain ⟨k', a0, a1, a2, a3⟩ := lay_top (lim := lim) (st := st) ht (gs.length - k).toNat k h1 (by omega) (by omega)
  exact lay_down hw hs ht up k'.toNat k' (by omega) a1 a2 a3
theorem lay_go {lim : Int} {gs : List (Int × Int)} (hw : WellOk lim gs) {st tt : List Int} (hs : StOk gs st) (up : Up lim gs st tt) {j : Int} (hm : (j, j - 1) ∈ legMv lim gs st) (hj : scRun lim gs st j < scRun lim gs tt j) :
    StOk gs (appl st j (j - 1) 1) ∧ Up lim gs (appl st j (j - 1) 1) tt ∧ (crs lim gs (appl st j (j - 1) 1) tt).sum = (crs lim gs st tt).sum - 1 := by
  obtain ⟨k0, k1, l0, l1, hlim⟩ := leg_bnd hm
  have lg := (List.mem_filter.mp hm).2
  unfold isLegal at lg
  rw [Bool.and_eq_true, Bool.or_eq_true] at lg
  have g1 := of_decide_eq_true lg.1
  have g2 : 0 ≤ j - 1 → 1 ≤ stAt st (j - 1) := fun h => by
    rcases lg.2 with z | z
    · have := of_decide_eq_true z; simp only at this; omega
    · have := of_decide_eq_true z; simp only at this; omega
  simp only at g1
  have mv := fun (i : Int) (i0 : 0 ≤ i) (i1 : i < gs.length) => sc_move hw hs.len k0 k1 l0 l1 hlim (t := 1) i i0 i1
  refine ⟨stok_appl hs hm (by decide) (by omega) g2, fun i i0 i1 => ?_, ?_⟩
  · rw [mv i i0 i1]
    have u := up i i0 i1
    by_cases c : j - 1 < i ∧ i ≤ j
    · rw [if_pos c]
      have e : i = j := by omega
      rw [e]
      exact ⟨by omega, fun h => by rw [mv_nocut hw k1 l0 hlim j (by omega) (by omega)] at h; cases h⟩
    · rw [if_neg c]
      exact ⟨by omega, fun h => by have := u.2 h; omega⟩
  · unfold crs
    have e := sum_less (fun k => scRun lim gs tt k - scRun lim gs st k) (fun k => scRun lim gs tt k - scRun lim gs st k - (if k = j then 1 else 0)) j (fun _ => rfl) gs.length 0
    rw [if_pos (by omega)] at e
    rw [← e]
    congr 1
    refine sum_same _ _ _ _ (fun i h1 h2 => ?_)
    rw [mv i h1 (by omega)]
    by_cases c : j - 1 < i ∧ i ≤ j
    · rw [if_pos c, if_pos (by omega)]; omega
    · rw [if_neg c, if_neg (by omega)]; omega
theorem run_le {c : Int → Bool} {f : Int → Int} {B : Int} (hB : 0 ≤ B) (m : Nat) : ∀ (k : Int), (∀ i, k ≤ i → i < k + m → f i ≤ B) → runS c f k m ≤ m * B := by
  induction m with
  | zero => intro k _; rw [runS]; simp
  | succ m ih =>
    intro k h
    have h0 := h k (by omega) (by omega)
    have := ih (k + 1) (fun i h1 h2 => h i (by omega) (by omega))
    have e : ((m + 1 : Nat) : Int) * B = m * B + B := by rw [Int.natCast_add, Int.add_mul]; omega
    have p : 0 ≤ (m : Int) * B := Int.mul_nonneg (by omega) hB
    rw [runS]
    split <;> omega
theorem run_ge {c : Int → Bool} {f : Int → Int} (m : Nat) : ∀ (k : Int), (∀ i, k ≤ i → i < k + m → 0 ≤ f i) → 0 ≤ runS c f k m := by
  induction m with
  | zero => intro k _; rw [runS]; exact Int.le_refl _
  | succ m ih =>
    intro k h
    have h0 := h k (by omega) (by omega)
    have := ih (k + 1) (fun i h1 h2 => h i (by omega) (by omega))
    rw [runS]
    split <;> omega
theorem crs_big {lim : Int} {gs : List (Int × Int)} (hw : WellOk lim gs) {st tt : List Int} (hs : StOk gs st) (ht : StOk gs tt) : (crs lim gs st tt).sum < 2 ^ 62 := by
  have g := hw.len
  have := sum_le_all (fun k => scRun lim gs tt k - scRun lim gs st k) 140000000000000 gs.length 0 (fun k h1 h2 => by
    have a := run_le (c := cutB lim gs) (f := stAt tt) (B := 10000000000000) (by decide) (gs.length - k).toNat k (fun i i1 i2 => by
      have := stok_stAt ht i (by omega) (by omega)
      have := sz_pos hw i (by omega) (by omega)
      omega)
    have b := run_ge (c := cutB lim gs) (f := stAt st) (gs.length - k).toNat k (fun i i1 i2 => (stok_stAt hs i (by omega) (by omega)).1)
    show runS _ _ _ _ - runS _ _ _ _ ≤ _
    have c : (((gs.length : Int) - k).toNat : Int) ≤ 14 := by omega
    have d := Int.mul_le_mul_of_nonneg_right c (show (0 : Int) ≤ 10000000000000 by decide)
    omega)
  unfold crs
  omega
end LW

namespace LW
open PySem L2 DL
local macro_rules | `(tactic| walk_at "ee") => `(tactic| simp only [↓asB_b, ↓with1_s, ↓with2_s, ↓asI_s, ↓withL_s, ↓withA_s, ↓putI_s, ↓subI_s, ↓as2I_s, ↓appV_s, ↓isO_o, ↓ev_var, ↓ev_vd, ↓ev_vo, ↓ev_c, ↓ev_avar, ↓ev_ad, ↓ev_ao, ↓ev_kz, ↓ev_of, ↓ev_kof, ↓ev_op, ↓ev_op1, ↓ev_op2, ↓ev_op3, ↓ev_un, ↓ev_un1, ↓ev_un2, ↓ev_test, ↓ev_ktest, ↓ev_and, ↓ev_kandT, ↓ev_kandF, ↓ev_or, ↓ev_korT, ↓ev_korF, ↓ev_not, ↓ev_knot, ↓ev_andV, ↓ev_kandV, ↓ev_kandVT, ↓ev_kandVF, ↓ev_orV, ↓ev_korV, ↓ev_korVT, ↓ev_korVF, ↓ev_notV, ↓ev_knotV, ↓ev_knotV2, ↓ev_ifE, ↓ev_kifET, ↓ev_kifEF, ↓ev_chain, ↓ev_ch1, ↓ev_ch2, ↓ev_ch2b, ↓ev_ch3, ↓ev_ch4T, ↓ev_ch4F, ↓ev_ch5, ↓ev_ch6, ↓ev_nil, ↓ev_cons, ↓ev_kcons, ↓ev_kcons2, ↓ev_lst, ↓ev_klst, ↓ev_tup, ↓ev_ktup, ↓ev_rnil, ↓ev_rcons, ↓ev_krcons, ↓ev_krcons2, ↓ev_anil, ↓ev_acons, ↓ev_kacons, ↓ev_kacons2, ↓ev_pnone, ↓ev_psome, ↓ev_kp, ↓ev_kp2, ↓ev_sl, ↓ev_sl1, ↓ev_sl2, ↓ev_sl3, ↓ev_sl4, ↓ev_slL, ↓ev_slT, ↓ev_cb, ↓ev_kcb, ↓ev_kcb2, ↓ev_isi, ↓ev_kisi, ↓ev_kisi2, ↓ev_call, ↓ev_kcall, ↓ev_callK, ↓ev_kcallK, ↓ev_kq, ↓ev_comp, ↓ev_kcomp, ↓ev_kcompE, ↓ev_compN, ↓ev_compC, ↓ev_kc1, ↓ev_kc2T, ↓ev_kc2F, ↓ev_kc3, ↓ev_yes, ↓ev_gn, ↓ev_gnil, ↓ev_gcons, ↓ev_kg, ↓ev_gtup, ↓ev_seqT, ↓ev_seqL, ↓ev_sub, ↓ev_ksub, ↓ev_iseq, ↓ev_kiseq, ↓ev_seqVL, ↓ev_seqVT, ↓ev_kqd, ↓ev_rg1, ↓ev_krg1, ↓ev_krg1b, ↓ev_rg2, ↓ev_krg2, ↓ev_krg2b, ↓ev_krg2c, ↓ev_en, ↓ev_ken, ↓ev_enL, ↓ev_zp, ↓ev_kzp, ↓ev_kzp2, ↓ev_zpL, ↓ev_zpT, ↓ev_zpLT, ↓ev_zpTL, ↓ev_snext, ↓ev_sseq, ↓ev_knx, ↓nx_set, ↓rt_set, ↓bk_set, ↓ct_set, ↓ex_set, ↓nx_for, ↓rt_for, ↓bk_for, ↓ct_for, ↓ex_for, ↓nx_end, ↓rt_end, ↓ex_end, ↓ev_sbrk, ↓ev_scont, ↓ev_sdrop, ↓ev_kdrop, ↓ev_sret, ↓ev_sretN, ↓ev_sif, ↓ev_kifT, ↓ev_kifF, ↓ev_sset, ↓ev_kset, ↓ev_sasg, ↓ev_kasg, ↓ev_saug, ↓ev_kaug, ↓ev_kaug2, ↓ev_kaug3, ↓ev_sapp, ↓ev_kapp, ↓ev_spar, ↓ev_kpar, ↓ev_sfor, ↓ev_kfori, ↓ev_forN, ↓ev_forC, ↓ev_kfor, ↓o_addI, ↓o_addL, ↓o_addT, ↓o_addS, ↓o_sub, ↓o_iadd, ↓o_mod, ↓o_fdiv, ↓o_pow, ↓o_mulI, ↓o_mulL, ↓o_mulT, ↓o_lt, ↓o_le, ↓o_gt, ↓o_ge, ↓o_isB, ↓o_notB, ↓o_isN, ↓o_notN, ↓n_none, ↓n_int, ↓n_bool, ↓n_str, ↓n_list, ↓n_tup, ↓o_neg, ↓o_rev, ↓ixV_s, ↓o_ixL, ↓o_ixT, ↓c_abs, ↓c_intI, ↓c_intB, ↓c_lenL, ↓c_lenT, ↓c_max2, ↓c_min2, ↓c_listL, ↓c_listT, ↓c_tupL, ↓c_tupT, ↓c_divmod, ↓c_str, ↓c_sum1, ↓c_sumT1, ↓c_max1, ↓c_min1, ↓c_all1, ↓c_any1, ↓g_0, ↓g_s, ↓s_0, ↓s_s, ↓v_un, ↓v_d, ↓v_o, ↓res_x, ↓res_v, ↓val_d, ↓val_f, ↓sl_d, ↓sl_f, ↓ag_d, ↓ag_o, ↓cons?_s, ↓ra_nil, ↓cons2?_s, ↓ra_cons, ↓ag_nil, ↓ag_x, ↓agV_s, ↓ag_v, ↓nr_nil, ↓nr_x, ↓nrV_d, ↓nrV_o, ↓nr_v, ↓vx_nil, ↓vx_x, ↓vx_v, ↓putV_o, ↓pb_0, ↓pb_1, ↓pl_nil, ↓pl_0, ↓pl_1, ↓pl_2, ↓pl_3, ↓rd_0, ↓bx_nil, ↓bx_d, ↓bx_o, ↓rd_o, ↓kd_un, ↓kd_d, ↓sa_nil, ↓sa_cons, ↓wp_nil, ↓wp_cons, ↓rs_nil, ↓rs_cons, ↓ev_lc2, ↓ev_klc2, ↓ev_c2N, ↓ev_c2C, ↓ev_k21, ↓ev_k22T, ↓ev_k22F, ↓ev_k23, ↓ev_k24, ↓c_repr, ↓c_sort, ↓ev_callP, ↓ev_peek, ↓ev_peek2, ↓ev_scal, ↓ev_callF, ↓ev_knew, ↓ev_kdat, ↓c_listS, ↓c_tupS, ↓c_lenS, ↓o_well0, ↓o_well1, ↓seqT_g, ↓o_grp0, ↓o_grp1, ↓seqT_m, ↓o_mv0, ↓o_mv1, ↓o_st, ↓ev_lz, ↓ev_klz, ↓ev_klz2, ↓ev_klz3, ↓ev_tru, ↓ev_ktruB, ↓ev_ktruL, ↓ev_ktruF, ↓ev_nest, ↓ev_knest, Rs.val, Rs.sl, Ag.sl, Opd.res, Sl.val, Sl.keepD, isD_n, isD_b, isD_i, isD_s, isD_l, isD_t, eq_self, eqD_int, neD_int, eqD_ll, neD_ll, eqD_tt, neD_tt, eqD_bb, neD_bb, eqD_ss, neD_ss, atI_0, atI_1, atI_2, atI_3, ixN_1_0, ixN_2_0, ixN_2_1, ixN_3_0, ixN_3_1, ixN_3_2, ixN_4_0, ixN_4_1, ixN_4_2, ixN_4_3, dStart, repUn, tYesD, List.map_cons, List.map_nil, List.cons_append, List.nil_append, List.length_cons, List.length_nil, true_and, and_true, ne_eq, not_false_eq_true, reduceCtorEq, Option.some.injEq, Option.map_none, Option.map_some, Nat.reduceAdd, Nat.reduceSub, Nat.reduceLT, Nat.reduceLeDiff, Nat.zero_lt_succ, Nat.le_refl, Bool.not_true, Bool.not_false, decide_true, decide_false, Int.reduceLE, Int.reduceLT, Int.reduceEq, Int.toNat_zero, Int.reduceToNat, Int.reducePow, Int.reduceNeg, Int.toNat_one, List.set_cons_zero, List.set_cons_succ, List.not_mem_nil, List.mem_cons, false_or, or_false, forall_eq, forall_eq_or_imp, if_true, if_false, ite_true, ite_false, Bool.false_eq_true, forall_const, implies_true, false_implies])
/-! ### the state of suffix counts -/
def S_state_from_counts : DSp := fun as R Q => ∃ (x y : PyData) (lim : Int) (gs : List (Int × Int)) (st : List Int), as = [.d x, .d y] ∧ WellIs x lim gs ∧ gs.length ≤ 14 ∧ SeqIs y (ilD (scOf lim gs st)) ∧ st.length = gs.length ∧ Q (.d (stD st)) []
/-- state_from_counts -/
def w_state_from_counts_g2 : TGd :=
  (gN 4)
def w_state_from_counts_b2 : TSd :=
  (sSeq (sSet 5 (dIf (dTest (dOp eqD (aVar 4) (aOf (dOp ixD (aVar 3) (aOf (dUn negD (aOf (dC (.int 1))))))))) (dC (.int 0)) (dOp ixD (aVar 1) (aOf (dOp addD (aVar 4) (aOf (dC (.int 1))))))))
  (sApp 2 (dOp subD (aOf (dOp ixD (aVar 1) (aVar 4))) (aVar 5))))
def w_state_from_counts_g1 : TGd :=
  (gN 3)
def w_state_from_counts_b1 : TSd :=
  (sFor (iSeq (dVar 3)) w_state_from_counts_g2
  w_state_from_counts_b2)
def w_state_from_counts : TSd :=
  (sSeq (sSet 2 (dLst dNil))
  (sSeq (sFor (iSeq (dCallN 1 S_segments (aCons (aOf (dVar 0)) aNil))) w_state_from_counts_g1
  w_state_from_counts_b1)
  (sRet (dCB tupleK (aCons (aVar 2) aNil)))))
theorem sc_at (lim : Int) (gs : List (Int × Int)) (st : List Int) (k : Int) (h0 : 0 ≤ k) (h1 : k < gs.length) : atI (ilD (scOf lim gs st)) k = some (.int (scRun lim gs st k)) := at_rng _ _ k h0 h1
theorem sf_inner (x y : PyData) (lim : Int) (gs : List (Int × Int)) (st : List Int) (hg : gs.length ≤ 14) (hy : SeqIs y (ilD (scOf lim gs st))) (a : Int) (m : Nat) (ha : 0 ≤ a) (hn : noCut (cutB lim gs) a m) (hm : a + m + 1 ≤ gs.length) (hc : a + m + 1 = gs.length ∨ cutB lim gs (a + m + 1) = true) (D : DEnds) : ∀ (j : Nat) (k : Int) (acc : List Int) (s4 s5 : Sl), a ≤ k → k + j = a + m + 1 → acc.length ≤ k →
    (∀ s4 s5, D.nx [.d x, .d y, .o none (ilD (acc ++ (rngI k j).map (stAt st))), .d (segD (rngI a (m + 1))), s4, s5]) →
    forD w_state_from_counts_g2 w_state_from_counts_b2 D (ilD (rngI k j)) [.d x, .d y, .o none (ilD acc), .d (segD (rngI a (m + 1))), s4, s5] := by
  intro j
  induction j with
  | zero => intro k acc s4 s5 _ _ _ q; simp only [rngI, List.map_nil, List.append_nil] at q; exact q s4 s5
  | succ j ih =>
    intro k acc s4 s5 h1 h2 h3 q
    have e0 : ilD (rngI k (j + 1)) = .int k :: ilD (rngI (k + 1) j) := rfl
    have go : ∀ v s5, v = stAt st k → (ilD acc).length < 16777216 ∧ forD w_state_from_counts_g2 w_state_from_counts_b2 D (ilD (rngI (k + 1) j)) [.d x, .d y, .o none (ilD acc ++ [.int v]), .d (segD (rngI a (m + 1))), .d (.int k), s5] := fun v s5 e => by
      refine ⟨by unfold ilD; rw [List.length_map]; omega, ?_⟩
      have := ih (k + 1) (acc ++ [stAt st k]) (.d (.int k)) s5 (by omega) (by omega) (by simp only [List.length_append, List.length_cons, List.length_nil]; omega) (fun s4 s5 => by
        have := q s4 s5
        rw [rngI, List.map_cons] at this
        rw [List.append_assoc]
        exact this)
      rw [e]
      unfold ilD at this ⊢
      rw [List.map_append] at this
      exact this
    have st1 := sc_step lim gs st k (by omega)
    have a0 := sc_at lim gs st k (by omega) (by omega)
    rw [e0, ev_forC]
    unfold w_state_from_counts_g2 w_state_from_counts_b2
    unfold segD at go ⊢
    walk_at "ee"
    rw [at_end]
    walk_at "ee"
    by_cases c : k = a + m
    · rw [dT c]
      walk_at "ee"
      rw [is_ix hy, a0]
      walk_at "ee"
      refine go _ _ ?_
      rw [st1]
      have e : (if cutB lim gs (k + 1) = true then 0 else scRun lim gs st (k + 1)) = 0 := by
        rcases hc with h | h
        · rw [c, h, sc_end]; split <;> rfl
        · rw [c, if_pos h]
      rw [e]; omega
    · rw [dF c]
      walk_at "ee"
      rw [is_ix hy, sc_at lim gs st (k + 1) (by omega) (by omega)]
      walk_at "ee"
      rw [is_ix hy, a0]
      walk_at "ee"
      refine go _ _ ?_
      rw [st1, hn (k + 1) (by omega) (by omega)]
      simp only [Bool.false_eq_true, if_false]
      omega
theorem sf_outer (x y : PyData) (lim : Int) (gs : List (Int × Int)) (st : List Int) (hg : gs.length ≤ 14) (hy : SeqIs y (ilD (scOf lim gs st))) (D : DEnds) : ∀ (a : Int) (ss : List (List Int)), SegOk (cutB lim gs) gs.length a ss → 0 ≤ a → ∀ (acc : List Int) (s3 s4 s5 : Sl), acc.length = a →
    (∀ s3 s4 s5, D.nx [.d x, .d y, .o none (ilD (acc ++ (rngI a (gs.length - a).toNat).map (stAt st))), s3, s4, s5]) →
    forD w_state_from_counts_g1 w_state_from_counts_b1 D (ss.map segD) [.d x, .d y, .o none (ilD acc), s3, s4, s5] := by
  intro a ss h
  induction h with
  | nil =>
    intro _ acc s3 s4 s5 _ q
    have e : ((gs.length : Int) - gs.length).toNat = 0 := by omega
    rw [e] at q
    simp only [rngI, List.map_nil, List.append_nil] at q
    exact q s3 s4 s5
  | cons hn hm hc _ ih =>
    rename_i a m ls _
    intro h0 acc s3 s4 s5 hl q
    rw [List.map_cons, ev_forC]
    unfold w_state_from_counts_g1 w_state_from_counts_b1
    walk_at "ee"
    rw [show segD (rngI a (m + 1)) = .list (ilD (rngI a (m + 1))) from rfl]
    walk_at "ee"
    refine sf_inner x y lim gs st hg hy a m h0 hn hm hc _ (m + 1) a acc _ _ (by omega) (by omega) (by omega) (fun s4 s5 => ?_)
    refine ih (by omega) (acc ++ (rngI a (m + 1)).map (stAt st)) _ _ _ (by rw [List.length_append, List.length_map, rngI_len]; omega) (fun s3 s4 s5 => ?_)
    have := q s3 s4 s5
    have e : ((gs.length : Int) - a).toNat = (m + 1) + ((gs.length : Int) - (a + m + 1)).toNat := by omega
    rw [e, rngI_app, List.map_append, ← List.append_assoc] at this
    have e2 : a + ((m + 1 : Nat) : Int) = a + m + 1 := by omega
    rw [e2] at this
    exact this
theorem b_state_from_counts (as : List Ag) (m : Addr) (R : RXc) (Q : Rs → List (List PyData) → Prop) (hl : as.length = 2) (h : S_state_from_counts as R Q) : w_state_from_counts (dEnds as m Q noR) (dStart 6 as m) := by
  obtain ⟨x, y, lim, gs, st, rfl, hx, hg, hy, hs, q⟩ := h
  unfold w_state_from_counts
  walk_at "ee"
  refine ⟨x, lim, gs, rfl, hx, hg, fun ss hss => ?_⟩
  walk_at "ee"
  refine sf_outer x y lim gs st hg hy _ 0 ss hss (by omega) [] _ _ _ rfl (fun s3 s4 s5 => ?_)
  rw [List.nil_append]
  have e : ((gs.length : Int) - 0).toNat = st.length := by omega
  rw [e, map_stAt]
  walk_at "ee"
  exact q
end LW

namespace LW
open PySem L2 DL
local macro_rules | `(tactic| walk_at "ee") => `(tactic| simp only [↓asB_b, ↓with1_s, ↓with2_s, ↓asI_s, ↓withL_s, ↓withA_s, ↓putI_s, ↓subI_s, ↓as2I_s, ↓appV_s, ↓isO_o, ↓ev_var, ↓ev_vd, ↓ev_vo, ↓ev_c, ↓ev_avar, ↓ev_ad, ↓ev_ao, ↓ev_kz, ↓ev_of, ↓ev_kof, ↓ev_op, ↓ev_op1, ↓ev_op2, ↓ev_op3, ↓ev_un, ↓ev_un1, ↓ev_un2, ↓ev_test, ↓ev_ktest, ↓ev_and, ↓ev_kandT, ↓ev_kandF, ↓ev_or, ↓ev_korT, ↓ev_korF, ↓ev_not, ↓ev_knot, ↓ev_andV, ↓ev_kandV, ↓ev_kandVT, ↓ev_kandVF, ↓ev_orV, ↓ev_korV, ↓ev_korVT, ↓ev_korVF, ↓ev_notV, ↓ev_knotV, ↓ev_knotV2, ↓ev_ifE, ↓ev_kifET, ↓ev_kifEF, ↓ev_chain, ↓ev_ch1, ↓ev_ch2, ↓ev_ch2b, ↓ev_ch3, ↓ev_ch4T, ↓ev_ch4F, ↓ev_ch5, ↓ev_ch6, ↓ev_nil, ↓ev_cons, ↓ev_kcons, ↓ev_kcons2, ↓ev_lst, ↓ev_klst, ↓ev_tup, ↓ev_ktup, ↓ev_rnil, ↓ev_rcons, ↓ev_krcons, ↓ev_krcons2, ↓ev_anil, ↓ev_acons, ↓ev_kacons, ↓ev_kacons2, ↓ev_pnone, ↓ev_psome, ↓ev_kp, ↓ev_kp2, ↓ev_sl, ↓ev_sl1, ↓ev_sl2, ↓ev_sl3, ↓ev_sl4, ↓ev_slL, ↓ev_slT, ↓ev_cb, ↓ev_kcb, ↓ev_kcb2, ↓ev_isi, ↓ev_kisi, ↓ev_kisi2, ↓ev_call, ↓ev_kcall, ↓ev_callK, ↓ev_kcallK, ↓ev_kq, ↓ev_comp, ↓ev_kcomp, ↓ev_kcompE, ↓ev_compN, ↓ev_compC, ↓ev_kc1, ↓ev_kc2T, ↓ev_kc2F, ↓ev_kc3, ↓ev_yes, ↓ev_gn, ↓ev_gnil, ↓ev_gcons, ↓ev_kg, ↓ev_gtup, ↓ev_seqT, ↓ev_seqL, ↓ev_sub, ↓ev_ksub, ↓ev_iseq, ↓ev_kiseq, ↓ev_seqVL, ↓ev_seqVT, ↓ev_kqd, ↓ev_rg1, ↓ev_krg1, ↓ev_krg1b, ↓ev_rg2, ↓ev_krg2, ↓ev_krg2b, ↓ev_krg2c, ↓ev_en, ↓ev_ken, ↓ev_enL, ↓ev_zp, ↓ev_kzp, ↓ev_kzp2, ↓ev_zpL, ↓ev_zpT, ↓ev_zpLT, ↓ev_zpTL, ↓ev_snext, ↓ev_sseq, ↓ev_knx, ↓nx_set, ↓rt_set, ↓bk_set, ↓ct_set, ↓ex_set, ↓nx_for, ↓rt_for, ↓bk_for, ↓ct_for, ↓ex_for, ↓nx_end, ↓rt_end, ↓ex_end, ↓ev_sbrk, ↓ev_scont, ↓ev_sdrop, ↓ev_kdrop, ↓ev_sret, ↓ev_sretN, ↓ev_sif, ↓ev_kifT, ↓ev_kifF, ↓ev_sset, ↓ev_kset, ↓ev_sasg, ↓ev_kasg, ↓ev_saug, ↓ev_kaug, ↓ev_kaug2, ↓ev_kaug3, ↓ev_sapp, ↓ev_kapp, ↓ev_spar, ↓ev_kpar, ↓ev_sfor, ↓ev_kfori, ↓ev_forN, ↓ev_forC, ↓ev_kfor, ↓o_addI, ↓o_addL, ↓o_addT, ↓o_addS, ↓o_sub, ↓o_iadd, ↓o_mod, ↓o_fdiv, ↓o_pow, ↓o_mulI, ↓o_mulL, ↓o_mulT, ↓o_lt, ↓o_le, ↓o_gt, ↓o_ge, ↓o_isB, ↓o_notB, ↓o_isN, ↓o_notN, ↓n_none, ↓n_int, ↓n_bool, ↓n_str, ↓n_list, ↓n_tup, ↓o_neg, ↓o_rev, ↓ixV_s, ↓o_ixL, ↓o_ixT, ↓c_abs, ↓c_intI, ↓c_intB, ↓c_lenL, ↓c_lenT, ↓c_max2, ↓c_min2, ↓c_listL, ↓c_listT, ↓c_tupL, ↓c_tupT, ↓c_divmod, ↓c_str, ↓c_sum1, ↓c_sumT1, ↓c_max1, ↓c_min1, ↓c_all1, ↓c_any1, ↓g_0, ↓g_s, ↓s_0, ↓s_s, ↓v_un, ↓v_d, ↓v_o, ↓res_x, ↓res_v, ↓val_d, ↓val_f, ↓sl_d, ↓sl_f, ↓ag_d, ↓ag_o, ↓cons?_s, ↓ra_nil, ↓cons2?_s, ↓ra_cons, ↓ag_nil, ↓ag_x, ↓agV_s, ↓ag_v, ↓nr_nil, ↓nr_x, ↓nrV_d, ↓nrV_o, ↓nr_v, ↓vx_nil, ↓vx_x, ↓vx_v, ↓putV_o, ↓pb_0, ↓pb_1, ↓pl_nil, ↓pl_0, ↓pl_1, ↓pl_2, ↓pl_3, ↓rd_0, ↓bx_nil, ↓bx_d, ↓bx_o, ↓rd_o, ↓kd_un, ↓kd_d, ↓sa_nil, ↓sa_cons, ↓wp_nil, ↓wp_cons, ↓rs_nil, ↓rs_cons, ↓ev_lc2, ↓ev_klc2, ↓ev_c2N, ↓ev_c2C, ↓ev_k21, ↓ev_k22T, ↓ev_k22F, ↓ev_k23, ↓ev_k24, ↓c_repr, ↓c_sort, ↓ev_callP, ↓ev_peek, ↓ev_peek2, ↓ev_scal, ↓ev_callF, ↓ev_knew, ↓ev_kdat, ↓c_listS, ↓c_tupS, ↓c_lenS, ↓o_well0, ↓o_well1, ↓seqT_g, ↓o_grp0, ↓o_grp1, ↓seqT_m, ↓o_mv0, ↓o_mv1, ↓o_st, ↓ev_lz, ↓ev_klz, ↓ev_klz2, ↓ev_klz3, ↓ev_tru, ↓ev_ktruB, ↓ev_ktruL, ↓ev_ktruF, ↓ev_nest, ↓ev_knest, Rs.val, Rs.sl, Ag.sl, Opd.res, Sl.val, Sl.keepD, isD_n, isD_b, isD_i, isD_s, isD_l, isD_t, eq_self, eqD_int, neD_int, eqD_ll, neD_ll, eqD_tt, neD_tt, eqD_bb, neD_bb, eqD_ss, neD_ss, atI_0, atI_1, atI_2, atI_3, ixN_1_0, ixN_2_0, ixN_2_1, ixN_3_0, ixN_3_1, ixN_3_2, ixN_4_0, ixN_4_1, ixN_4_2, ixN_4_3, dStart, repUn, tYesD, List.map_cons, List.map_nil, List.cons_append, List.nil_append, List.length_cons, List.length_nil, true_and, and_true, ne_eq, not_false_eq_true, reduceCtorEq, Option.some.injEq, Option.map_none, Option.map_some, Nat.reduceAdd, Nat.reduceSub, Nat.reduceLT, Nat.reduceLeDiff, Nat.zero_lt_succ, Nat.le_refl, Bool.not_true, Bool.not_false, decide_true, decide_false, Int.reduceLE, Int.reduceLT, Int.reduceEq, Int.toNat_zero, Int.reduceToNat, Int.reducePow, Int.reduceNeg, Int.toNat_one, List.set_cons_zero, List.set_cons_succ, List.not_mem_nil, List.mem_cons, false_or, or_false, forall_eq, forall_eq_or_imp, if_true, if_false, ite_true, ite_false, Bool.false_eq_true, forall_const, implies_true, false_implies])
/-! ### compatible states, joins, meets -/
def compB (lim : Int) (gs : List (Int × Int)) (st tt : List Int) : Bool := (rngI 0 gs.length).all fun k => !cutB lim gs k || decide (scRun lim gs st k = scRun lim gs tt k)
def S_are_compatible : DSp := fun as R Q => ∃ (x y z : PyData) (lim : Int) (gs : List (Int × Int)) (st tt : List Int), as = [.d x, .d y, .d z] ∧ WellIs x lim gs ∧ gs.length ≤ 14 ∧ SeqIs y (ilD st) ∧ st.length = gs.length ∧ SeqIs z (ilD tt) ∧ tt.length = gs.length ∧ Q (.d (.bool (compB lim gs st tt))) []
/-- are_compatible -/
def w_are_compatible_g1 : TGd :=
  (gTupD 2 (gConsD (gN 4) (gConsD (gTupD 2 (gConsD (gN 5) (gConsD (gN 6) gNilD))) gNilD)))
def w_are_compatible_t1 : TTd :=
  (dTest (dCallN 2 S_starts_ungrounded (aCons (aOf (dVar 0)) (aCons (aOf (dVar 4)) aNil))))
def w_are_compatible_e1 : TD :=
  (dOp eqD (aVar 5) (aVar 6))
def w_are_compatible : TSd :=
  (sSeq (sSet 3 (dCallN 3 S_count_pairs (aCons (aOf (dVar 0)) (aCons (aOf (dVar 1)) (aCons (aOf (dVar 2)) aNil)))))
  (sRet (dCB allK (aCons (aOf (dComp [4, 5, 6] (iEnumD (dVar 3)) w_are_compatible_g1 w_are_compatible_t1 w_are_compatible_e1)) aNil))))
theorem ac_loop (x : PyData) (lim : Int) (gs : List (Int × Int)) (hx : WellIs x lim gs) (s1 s2 s3 : Sl) (f g : Int → Int) (Q : List PyData → DSt → Prop) : ∀ (n : Nat) (k : Int) (acc : List Bool) (s4 s5 s6 : Sl), 0 ≤ k → k + n = gs.length → acc.length + n ≤ 1000 →
    (∀ (bs : List Bool) s4 s5 s6, bs.all id = (acc.all id && (rngI k n).all fun k => !cutB lim gs k || decide (f k = g k)) → Q (bs.map .bool) [.d x, s1, s2, s3, s4, s5, s6]) →
    compD [4, 5, 6] w_are_compatible_g1 w_are_compatible_t1 w_are_compatible_e1 ((rngI k n).map fun k => .tuple [.int k, .tuple [.int (f k), .int (g k)]]) (acc.map .bool) [.d x, s1, s2, s3, s4, s5, s6] Q := by
  intro n
  induction n with
  | zero => intro k acc s4 s5 s6 _ _ _ q; exact q acc _ _ _ (by simp [rngI])
  | succ n ih =>
    intro k acc s4 s5 s6 h0 h1 h2 q
    rw [rngI, List.map_cons, ev_compC]
    unfold w_are_compatible_g1 w_are_compatible_t1
    walk_at "ee"
    refine ⟨x, lim, gs, k, rfl, hx, h0, by omega, ?_⟩
    rw [rngI] at q
    cases c : cutB lim gs k with
    | true =>
      walk_at "ee"
      unfold w_are_compatible_e1
      walk_at "ee"
      refine ⟨by rw [List.length_map]; omega, ?_⟩
      have := ih (k + 1) (acc ++ [decide (f k = g k)]) (.d (.int k)) (.d (.int (f k))) (.d (.int (g k))) (by omega) (by omega) (by simp only [List.length_append, List.length_cons, List.length_nil]; omega) (fun bs s4 s5 s6 hb => q bs s4 s5 s6 (by
        rw [hb, List.all_append, List.all_cons (a := k), c]
        simp [Bool.and_assoc]))
      rw [List.map_append (l₁ := acc)] at this
      exact this
    | false =>
      walk_at "ee"
      exact ih (k + 1) acc _ _ _ (by omega) (by omega) (by omega) (fun bs s4 s5 s6 hb => q bs s4 s5 s6 (by
        rw [hb, List.all_cons (a := k), c]
        simp))
theorem b_are_compatible (as : List Ag) (m : Addr) (R : RXc) (Q : Rs → List (List PyData) → Prop) (hl : as.length = 3) (h : S_are_compatible as R Q) : w_are_compatible (dEnds as m Q noR) (dStart 7 as m) := by
  obtain ⟨x, y, z, lim, gs, st, tt, rfl, hx, hg, hy, hs, hz, ht, q⟩ := h
  unfold w_are_compatible
  walk_at "ee"
  refine ⟨x, y, z, lim, gs, st, tt, rfl, hx, hg, hy, hs, hz, ht, ?_⟩
  walk_at "ee"
  have e1 : zipD (ilD (scOf lim gs st)) (ilD (scOf lim gs tt)) = (rngI ((0 : Nat) : Int) gs.length).map fun k => .tuple [.int (scRun lim gs st k), .int (scRun lim gs tt k)] := zip_rng _ _ _ _
  have e2 := enum_rng (fun k => PyData.tuple [.int (scRun lim gs st k), .int (scRun lim gs tt k)]) gs.length 0
  rw [e1, e2]
  refine ac_loop x lim gs hx _ _ _ (scRun lim gs st) (scRun lim gs tt) _ gs.length 0 [] _ _ _ (by decide) (by omega) (by simp only [List.length_nil]; omega) (fun bs s4 s5 s6 hb => ?_)
  walk_at "ee"
  refine ⟨bs, rfl, ?_⟩
  rw [hb]
  exact q
/-- the state of given counts -/
def fromC (lim : Int) (gs : List (Int × Int)) (c : Int → Int) : List Int := (rngI 0 gs.length).map fun k => c k - (if k + 1 = gs.length ∨ cutB lim gs (k + 1) = true then 0 else c (k + 1))
theorem fromC_len (lim : Int) (gs : List (Int × Int)) (c : Int → Int) : (fromC lim gs c).length = gs.length := by unfold fromC; rw [List.length_map, rngI_len]
theorem fromC_at (lim : Int) (gs : List (Int × Int)) (c : Int → Int) (k : Int) (h0 : 0 ≤ k) (h1 : k < gs.length) : stAt (fromC lim gs c) k = c k - (if k + 1 = gs.length ∨ cutB lim gs (k + 1) = true then 0 else c (k + 1)) := by
  have a := at_st (fromC lim gs c) k h0 (by rw [fromC_len]; exact h1)
  have b := at_rng (fun k => c k - (if k + 1 = gs.length ∨ cutB lim gs (k + 1) = true then 0 else c (k + 1))) gs.length k h0 h1
  have e : some (PyData.int (stAt (fromC lim gs c) k)) = some (.int (c k - (if k + 1 = gs.length ∨ cutB lim gs (k + 1) = true then 0 else c (k + 1)))) := a.symm.trans b
  simp only [Option.some.injEq, PyData.int.injEq] at e
  exact e
theorem fromC_sc (lim : Int) (gs : List (Int × Int)) (c : Int → Int) : ∀ (m : Nat) (k : Int), 0 ≤ k → k + m + 1 = gs.length → scRun lim gs (fromC lim gs c) k = c k := by
  intro m
  induction m with
  | zero =>
    intro k h0 h
    rw [sc_step _ _ _ k (by omega), fromC_at _ _ _ k h0 (by omega), if_pos (.inl (by omega)), show k + 1 = gs.length by omega, sc_end]
    split <;> omega
  | succ m ih =>
    intro k h0 h
    rw [sc_step _ _ _ k (by omega), fromC_at _ _ _ k h0 (by omega), ih (k + 1) (by omega) (by omega)]
    by_cases e : cutB lim gs (k + 1) = true
    · rw [if_pos e, if_pos (.inr e)]; omega
    · rw [if_neg e, if_neg (fun z => z.elim (by omega) e)]; omega
theorem scOf_from (lim : Int) (gs : List (Int × Int)) (c : Int → Int) : scOf lim gs (fromC lim gs c) = (rngI 0 gs.length).map c := by
  unfold scOf
  refine sum_same _ _ _ _ (fun j h1 h2 => ?_)
  exact fromC_sc lim gs c (gs.length - 1 - j).toNat j h1 (by omega)
def joinL (lim : Int) (gs : List (Int × Int)) (st tt : List Int) : List Int := fromC lim gs fun k => if scRun lim gs tt k > scRun lim gs st k then scRun lim gs tt k else scRun lim gs st k
def meetL (lim : Int) (gs : List (Int × Int)) (st tt : List Int) : List Int := fromC lim gs fun k => if scRun lim gs tt k < scRun lim gs st k then scRun lim gs tt k else scRun lim gs st k
def S_join : DSp := fun as R Q => ∃ (x y z : PyData) (lim : Int) (gs : List (Int × Int)) (st tt : List Int), as = [.d x, .d y, .d z] ∧ WellIs x lim gs ∧ gs.length ≤ 14 ∧ SeqIs y (ilD st) ∧ st.length = gs.length ∧ SeqIs z (ilD tt) ∧ tt.length = gs.length ∧ Q (.d (if compB lim gs st tt = true then stD (joinL lim gs st tt) else .none)) []
/-- join -/
def w_join_g1 : TGd :=
  (gTupD 2 (gConsD (gN 4) (gConsD (gN 5) gNilD)))
def w_join_e1 : TD :=
  (dCB max2K (aCons (aVar 4) (aCons (aVar 5) aNil)))
def w_join : TSd :=
  (sSeq (sIf (dNot (dTest (dCallN 3 S_are_compatible (aCons (aOf (dVar 0)) (aCons (aOf (dVar 1)) (aCons (aOf (dVar 2)) aNil)))))) (sRet (dC .none)) sNext)
  (sSeq (sSet 3 (dComp [4, 5] (iSeq (dCallN 3 S_count_pairs (aCons (aOf (dVar 0)) (aCons (aOf (dVar 1)) (aCons (aOf (dVar 2)) aNil))))) w_join_g1 tYesD w_join_e1))
  (sRet (dCallN 2 S_state_from_counts (aCons (aOf (dVar 0)) (aCons (aOf (dVar 3)) aNil))))))
theorem join_loop (f g : Int → Int) (s0 s1 s2 s3 : Sl) (Q : List PyData → DSt → Prop) : ∀ (n : Nat) (k : Int) (acc : List Int) (s4 s5 : Sl), acc.length + n ≤ 1000 →
    (∀ s4 s5, Q (ilD (acc ++ (rngI k n).map fun k => if g k > f k then g k else f k)) [s0, s1, s2, s3, s4, s5]) →
    compD [4, 5] w_join_g1 tYesD w_join_e1 ((rngI k n).map fun k => .tuple [.int (f k), .int (g k)]) (ilD acc) [s0, s1, s2, s3, s4, s5] Q := by
  intro n
  induction n with
  | zero => intro k acc s4 s5 _ q; simp only [rngI, List.map_nil, List.append_nil] at q; exact q _ _
  | succ n ih =>
    intro k acc s4 s5 h q
    rw [rngI, List.map_cons, ev_compC]
    unfold w_join_g1 w_join_e1
    walk_at "ee"
    refine ⟨by unfold ilD; rw [List.length_map]; omega, ?_⟩
    have := ih (k + 1) (acc ++ [if g k > f k then g k else f k]) (.d (.int (f k))) (.d (.int (g k))) (by simp only [List.length_append, List.length_cons, List.length_nil]; omega) (fun s4 s5 => by rw [List.append_assoc]; exact q s4 s5)
    unfold ilD at this ⊢
    rw [List.map_append (l₁ := acc)] at this
    exact this
theorem b_join (as : List Ag) (m : Addr) (R : RXc) (Q : Rs → List (List PyData) → Prop) (hl : as.length = 3) (h : S_join as R Q) : w_join (dEnds as m Q noR) (dStart 6 as m) := by
  obtain ⟨x, y, z, lim, gs, st, tt, rfl, hx, hg, hy, hs, hz, ht, q⟩ := h
  unfold w_join
  walk_at "ee"
  refine ⟨x, y, z, lim, gs, st, tt, rfl, hx, hg, hy, hs, hz, ht, ?_⟩
  cases c : compB lim gs st tt with
  | false =>
    rw [c] at q
    walk_at "ee"
    exact q
  | true =>
    rw [c] at q
    walk_at "ee"
    refine ⟨x, y, z, lim, gs, st, tt, rfl, hx, hg, hy, hs, hz, ht, ?_⟩
    have e1 : zipD (ilD (scOf lim gs st)) (ilD (scOf lim gs tt)) = (rngI 0 gs.length).map fun k => .tuple [.int (scRun lim gs st k), .int (scRun lim gs tt k)] := zip_rng _ _ _ _
    rw [e1]
    walk_at "ee"
    refine join_loop (scRun lim gs st) (scRun lim gs tt) _ _ _ _ _ gs.length 0 [] _ _ (by simp only [List.length_nil]; omega) (fun s4 s5 => ?_)
    rw [List.nil_append]
    walk_at "ee"
    refine ⟨x, _, lim, gs, joinL lim gs st tt, rfl, hx, hg, .inr (by unfold joinL; rw [scOf_from]), fromC_len _ _ _, ?_⟩
    walk_at "ee"
    exact q
def S_meet : DSp := fun as R Q => ∃ (x y z : PyData) (lim : Int) (gs : List (Int × Int)) (st tt : List Int), as = [.d x, .d y, .d z] ∧ WellIs x lim gs ∧ gs.length ≤ 14 ∧ SeqIs y (ilD st) ∧ st.length = gs.length ∧ SeqIs z (ilD tt) ∧ tt.length = gs.length ∧ Q (.d (if compB lim gs st tt = true then stD (meetL lim gs st tt) else .none)) []
/-- meet -/
def w_meet_g1 : TGd :=
  (gTupD 2 (gConsD (gN 4) (gConsD (gN 5) gNilD)))
def w_meet_e1 : TD :=
  (dCB min2K (aCons (aVar 4) (aCons (aVar 5) aNil)))
def w_meet : TSd :=
  (sSeq (sIf (dNot (dTest (dCallN 3 S_are_compatible (aCons (aOf (dVar 0)) (aCons (aOf (dVar 1)) (aCons (aOf (dVar 2)) aNil)))))) (sRet (dC .none)) sNext)
  (sSeq (sSet 3 (dComp [4, 5] (iSeq (dCallN 3 S_count_pairs (aCons (aOf (dVar 0)) (aCons (aOf (dVar 1)) (aCons (aOf (dVar 2)) aNil))))) w_meet_g1 tYesD w_meet_e1))
  (sRet (dCallN 2 S_state_from_counts (aCons (aOf (dVar 0)) (aCons (aOf (dVar 3)) aNil))))))
theorem meet_loop (f g : Int → Int) (s0 s1 s2 s3 : Sl) (Q : List PyData → DSt → Prop) : ∀ (n : Nat) (k : Int) (acc : List Int) (s4 s5 : Sl), acc.length + n ≤ 1000 →
    (∀ s4 s5, Q (ilD (acc ++ (rngI k n).map fun k => if g k < f k then g k else f k)) [s0, s1, s2, s3, s4, s5]) →
    compD [4, 5] w_meet_g1 tYesD w_meet_e1 ((rngI k n).map fun k => .tuple [.int (f k), .int (g k)]) (ilD acc) [s0, s1, s2, s3, s4, s5] Q := by
  intro n
  induction n with
  | zero => intro k acc s4 s5 _ q; simp only [rngI, List.map_nil, List.append_nil] at q; exact q _ _
  | succ n ih =>
    intro k acc s4 s5 h q
    rw [rngI, List.map_cons, ev_compC]
    unfold w_meet_g1 w_meet_e1
    walk_at "ee"
    refine ⟨by unfold ilD; rw [List.length_map]; omega, ?_⟩
    have := ih (k + 1) (acc ++ [if g k < f k then g k else f k]) (.d (.int (f k))) (.d (.int (g k))) (by simp only [List.length_append, List.length_cons, List.length_nil]; omega) (fun s4 s5 => by rw [List.append_assoc]; exact q s4 s5)
    unfold ilD at this ⊢
    rw [List.map_append (l₁ := acc)] at this
    exact this
theorem b_meet (as : List Ag) (m : Addr) (R : RXc) (Q : Rs → List (List PyData) → Prop) (hl : as.length = 3) (h : S_meet as R Q) : w_meet (dEnds as m Q noR) (dStart 6 as m) := by
  obtain ⟨x, y, z, lim, gs, st, tt, rfl, hx, hg, hy, hs, hz, ht, q⟩ := h
  unfold w_meet
  walk_at "ee"
  refine ⟨x, y, z, lim, gs, st, tt, rfl, hx, hg, hy, hs, hz, ht, ?_⟩
  cases c : compB lim gs st tt with
  | false =>
    rw [c] at q
    walk_at "ee"
    exact q
  | true =>
    rw [c] at q
    walk_at "ee"
    refine ⟨x, y, z, lim, gs, st, tt, rfl, hx, hg, hy, hs, hz, ht, ?_⟩
    have e1 : zipD (ilD (scOf lim gs st)) (ilD (scOf lim gs tt)) = (rngI 0 gs.length).map fun k => .tuple [.int (scRun lim gs st k), .int (scRun lim gs tt k)] := zip_rng _ _ _ _
    rw [e1]
    walk_at "ee"
    refine meet_loop (scRun lim gs st) (scRun lim gs tt) _ _ _ _ _ gs.length 0 [] _ _ (by simp only [List.length_nil]; omega) (fun s4 s5 => ?_)
    rw [List.nil_append]
    walk_at "ee"
    refine ⟨x, _, lim, gs, meetL lim gs st tt, rfl, hx, hg, .inr (by unfold meetL; rw [scOf_from]), fromC_len _ _ _, ?_⟩
    walk_at "ee"
    exact q
end LW

namespace LW
open PySem L2 DL
local macro_rules | `(tactic| walk_at "ee") => `(tactic| simp only [↓asB_b, ↓with1_s, ↓with2_s, ↓asI_s, ↓withL_s, ↓withA_s, ↓putI_s, ↓subI_s, ↓as2I_s, ↓appV_s, ↓isO_o, ↓ev_var, ↓ev_vd, ↓ev_vo, ↓ev_c, ↓ev_avar, ↓ev_ad, ↓ev_ao, ↓ev_kz, ↓ev_of, ↓ev_kof, ↓ev_op, ↓ev_op1, ↓ev_op2, ↓ev_op3, ↓ev_un, ↓ev_un1, ↓ev_un2, ↓ev_test, ↓ev_ktest, ↓ev_and, ↓ev_kandT, ↓ev_kandF, ↓ev_or, ↓ev_korT, ↓ev_korF, ↓ev_not, ↓ev_knot, ↓ev_andV, ↓ev_kandV, ↓ev_kandVT, ↓ev_kandVF, ↓ev_orV, ↓ev_korV, ↓ev_korVT, ↓ev_korVF, ↓ev_notV, ↓ev_knotV, ↓ev_knotV2, ↓ev_ifE, ↓ev_kifET, ↓ev_kifEF, ↓ev_chain, ↓ev_ch1, ↓ev_ch2, ↓ev_ch2b, ↓ev_ch3, ↓ev_ch4T, ↓ev_ch4F, ↓ev_ch5, ↓ev_ch6, ↓ev_nil, ↓ev_cons, ↓ev_kcons, ↓ev_kcons2, ↓ev_lst, ↓ev_klst, ↓ev_tup, ↓ev_ktup, ↓ev_rnil, ↓ev_rcons, ↓ev_krcons, ↓ev_krcons2, ↓ev_anil, ↓ev_acons, ↓ev_kacons, ↓ev_kacons2, ↓ev_pnone, ↓ev_psome, ↓ev_kp, ↓ev_kp2, ↓ev_sl, ↓ev_sl1, ↓ev_sl2, ↓ev_sl3, ↓ev_sl4, ↓ev_slL, ↓ev_slT, ↓ev_cb, ↓ev_kcb, ↓ev_kcb2, ↓ev_isi, ↓ev_kisi, ↓ev_kisi2, ↓ev_call, ↓ev_kcall, ↓ev_callK, ↓ev_kcallK, ↓ev_kq, ↓ev_comp, ↓ev_kcomp, ↓ev_kcompE, ↓ev_compN, ↓ev_compC, ↓ev_kc1, ↓ev_kc2T, ↓ev_kc2F, ↓ev_kc3, ↓ev_yes, ↓ev_gn, ↓ev_gnil, ↓ev_gcons, ↓ev_kg, ↓ev_gtup, ↓ev_seqT, ↓ev_seqL, ↓ev_sub, ↓ev_ksub, ↓ev_iseq, ↓ev_kiseq, ↓ev_seqVL, ↓ev_seqVT, ↓ev_kqd, ↓ev_rg1, ↓ev_krg1, ↓ev_krg1b, ↓ev_rg2, ↓ev_krg2, ↓ev_krg2b, ↓ev_krg2c, ↓ev_en, ↓ev_ken, ↓ev_enL, ↓ev_zp, ↓ev_kzp, ↓ev_kzp2, ↓ev_zpL, ↓ev_zpT, ↓ev_zpLT, ↓ev_zpTL, ↓ev_snext, ↓ev_sseq, ↓ev_knx, ↓nx_set, ↓rt_set, ↓bk_set, ↓ct_set, ↓ex_set, ↓nx_for, ↓rt_for, ↓bk_for, ↓ct_for, ↓ex_for, ↓nx_end, ↓rt_end, ↓ex_end, ↓ev_sbrk, ↓ev_scont, ↓ev_sdrop, ↓ev_kdrop, ↓ev_sret, ↓ev_sretN, ↓ev_sif, ↓ev_kifT, ↓ev_kifF, ↓ev_sset, ↓ev_kset, ↓ev_sasg, ↓ev_kasg, ↓ev_saug, ↓ev_kaug, ↓ev_kaug2, ↓ev_kaug3, ↓ev_sapp, ↓ev_kapp, ↓ev_spar, ↓ev_kpar, ↓ev_sfor, ↓ev_kfori, ↓ev_forN, ↓ev_forC, ↓ev_kfor, ↓o_addI, ↓o_addL, ↓o_addT, ↓o_addS, ↓o_sub, ↓o_iadd, ↓o_mod, ↓o_fdiv, ↓o_pow, ↓o_mulI, ↓o_mulL, ↓o_mulT, ↓o_lt, ↓o_le, ↓o_gt, ↓o_ge, ↓o_isB, ↓o_notB, ↓o_isN, ↓o_notN, ↓n_none, ↓n_int, ↓n_bool, ↓n_str, ↓n_list, ↓n_tup, ↓o_neg, ↓o_rev, ↓ixV_s, ↓o_ixL, ↓o_ixT, ↓c_abs, ↓c_intI, ↓c_intB, ↓c_lenL, ↓c_lenT, ↓c_max2, ↓c_min2, ↓c_listL, ↓c_listT, ↓c_tupL, ↓c_tupT, ↓c_divmod, ↓c_str, ↓c_sum1, ↓c_sumT1, ↓c_max1, ↓c_min1, ↓c_all1, ↓c_any1, ↓g_0, ↓g_s, ↓s_0, ↓s_s, ↓v_un, ↓v_d, ↓v_o, ↓res_x, ↓res_v, ↓val_d, ↓val_f, ↓sl_d, ↓sl_f, ↓ag_d, ↓ag_o, ↓cons?_s, ↓ra_nil, ↓cons2?_s, ↓ra_cons, ↓ag_nil, ↓ag_x, ↓agV_s, ↓ag_v, ↓nr_nil, ↓nr_x, ↓nrV_d, ↓nrV_o, ↓nr_v, ↓vx_nil, ↓vx_x, ↓vx_v, ↓putV_o, ↓pb_0, ↓pb_1, ↓pl_nil, ↓pl_0, ↓pl_1, ↓pl_2, ↓pl_3, ↓rd_0, ↓bx_nil, ↓bx_d, ↓bx_o, ↓rd_o, ↓kd_un, ↓kd_d, ↓sa_nil, ↓sa_cons, ↓wp_nil, ↓wp_cons, ↓rs_nil, ↓rs_cons, ↓ev_lc2, ↓ev_klc2, ↓ev_c2N, ↓ev_c2C, ↓ev_k21, ↓ev_k22T, ↓ev_k22F, ↓ev_k23, ↓ev_k24, ↓c_repr, ↓c_sort, ↓ev_callP, ↓ev_peek, ↓ev_peek2, ↓ev_scal, ↓ev_callF, ↓ev_knew, ↓ev_kdat, ↓c_listS, ↓c_tupS, ↓c_lenS, ↓o_well0, ↓o_well1, ↓seqT_g, ↓o_grp0, ↓o_grp1, ↓seqT_m, ↓o_mv0, ↓o_mv1, ↓o_st, ↓ev_lz, ↓ev_klz, ↓ev_klz2, ↓ev_klz3, ↓ev_tru, ↓ev_ktruB, ↓ev_ktruL, ↓ev_ktruF, ↓ev_nest, ↓ev_knest, Rs.val, Rs.sl, Ag.sl, Opd.res, Sl.val, Sl.keepD, isD_n, isD_b, isD_i, isD_s, isD_l, isD_t, eq_self, eqD_int, neD_int, eqD_ll, neD_ll, eqD_tt, neD_tt, eqD_bb, neD_bb, eqD_ss, neD_ss, atI_0, atI_1, atI_2, atI_3, ixN_1_0, ixN_2_0, ixN_2_1, ixN_3_0, ixN_3_1, ixN_3_2, ixN_4_0, ixN_4_1, ixN_4_2, ixN_4_3, dStart, repUn, tYesD, List.map_cons, List.map_nil, List.cons_append, List.nil_append, List.length_cons, List.length_nil, true_and, and_true, ne_eq, not_false_eq_true, reduceCtorEq, Option.some.injEq, Option.map_none, Option.map_some, Nat.reduceAdd, Nat.reduceSub, Nat.reduceLT, Nat.reduceLeDiff, Nat.zero_lt_succ, Nat.le_refl, Bool.not_true, Bool.not_false, decide_true, decide_false, Int.reduceLE, Int.reduceLT, Int.reduceEq, Int.toNat_zero, Int.reduceToNat, Int.reducePow, Int.reduceNeg, Int.toNat_one, List.set_cons_zero, List.set_cons_succ, List.not_mem_nil, List.mem_cons, false_or, or_false, forall_eq, forall_eq_or_imp, if_true, if_false, ite_true, ite_false, Bool.false_eq_true, forall_const, implies_true, false_implies])
/-! ### terminal states -/
def fillR : List Int → Int → List Int
  | [], _ => []
  | s :: r, p => (if p < s then p else s) :: fillR r (p - (if p < s then p else s))
def fillL (ps : List Int) (p : Int) : List Int := (fillR ps.reverse p).reverse
def S_heaviest_first : DSp := fun as R Q => ∃ (ps : List Int) (p : Int), as = [.d (.list (ilD ps)), .d (.int p)] ∧ ps.length ≤ 1000 ∧ Q (.d (.list (ilD (fillL ps p)))) []
/-- _heaviest_first -/
def w_heaviest_first_g1 : TGd :=
  (gN 3)
def w_heaviest_first_b1 : TSd :=
  (sSeq (sApp 2 (dCB min2K (aCons (aVar 3) (aCons (aVar 1) aNil))))
  (sAug 1 subD (aOf (dOp ixD (aVar 2) (aOf (dUn negD (aOf (dC (.int 1)))))))))
def w_heaviest_first : TSd :=
  (sSeq (sSet 2 (dLst dNil))
  (sSeq (sFor (iRevD (dVar 0)) w_heaviest_first_g1
  w_heaviest_first_b1)
  (sSeq (sRev 2)
  (sRet (dVar 2)))))
theorem at_last (ns : List Int) (z : Int) : atI (ilD (ns ++ [z])) (-1) = some (.int z) := by
  unfold ilD
  rw [atI_map]
  unfold atI ixN
  rw [if_neg (by decide)]
  have e1 : -((ns ++ [z]).length : Int) ≤ -1 := by rw [List.length_append]; simp only [List.length_cons, List.length_nil]; omega
  rw [if_pos e1]
  have e2 : (-1 + ((ns ++ [z]).length : Int)).toNat = ns.length := by rw [List.length_append]; simp only [List.length_cons, List.length_nil]; omega
  show (((ns ++ [z])[(-1 + ((ns ++ [z]).length : Int)).toNat]?).map PyData.int) = _
  rw [e2]
  simp
theorem hf_loop (s0 : Sl) (D : DEnds) : ∀ (rs : List Int) (p : Int) (acc : List Int) (s3 : Sl), acc.length + rs.length ≤ 1000 →
    (∀ p' s3, (D.nx [s0, .d (.int p'), .o none (ilD (acc ++ fillR rs p)), s3])) →
    forD w_heaviest_first_g1 w_heaviest_first_b1 D (ilD rs) [s0, .d (.int p), .o none (ilD acc), s3] := by
  intro rs
  induction rs with
  | nil => intro p acc s3 _ q; simp only [fillR, List.append_nil] at q; exact q _ _
  | cons r rs ih =>
    intro p acc s3 hl q
    simp only [List.length_cons] at hl
    have e0 : ilD (r :: rs) = .int r :: ilD rs := rfl
    rw [e0, ev_forC]
    unfold w_heaviest_first_g1 w_heaviest_first_b1
    walk_at "ee"
    have ea : ilD acc ++ [.int (if p < r then p else r)] = ilD (acc ++ [if p < r then p else r]) := by unfold ilD; rw [List.map_append]; rfl
    rw [ea, at_last]
    refine ⟨by unfold ilD; rw [List.length_map]; omega, ?_⟩
    walk_at "ee"
    refine ih (p - (if p < r then p else r)) (acc ++ [if p < r then p else r]) _ (by simp only [List.length_append, List.length_cons, List.length_nil]; omega) (fun p' s3 => ?_)
    have := q p' s3
    rw [fillR] at this
    rw [List.append_assoc]
    exact this
theorem b_heaviest_first (as : List Ag) (m : Addr) (R : RXc) (Q : Rs → List (List PyData) → Prop) (hl : as.length = 2) (h : S_heaviest_first as R Q) : w_heaviest_first (dEnds as m Q noR) (dStart 4 as m) := by
  obtain ⟨ps, p, rfl, hn, q⟩ := h
  unfold w_heaviest_first
  walk_at "ee"
  unfold iRevD
  walk_at "ee"
  have er : (ilD ps).reverse = ilD ps.reverse := by unfold ilD; rw [List.map_reverse]
  rw [er]
  refine hf_loop _ _ ps.reverse p [] _ (by simp only [List.length_nil, List.length_reverse]; omega) (fun p' s3 => ?_)
  rw [List.nil_append]
  walk_at "ee"
  unfold sRev
  have e2 : (ilD (fillR ps.reverse p)).reverse = ilD (fillL ps p) := by unfold ilD fillL; rw [List.map_reverse]
  walk_at "ee"
  rw [e2]
  exact q
theorem fillR_len : ∀ (ps : List Int) (p : Int), (fillR ps p).length = ps.length
  | [], _ => rfl
  | s :: r, p => by rw [fillR, List.length_cons, List.length_cons, fillR_len r]
theorem fillL_len (ps : List Int) (p : Int) : (fillL ps p).length = ps.length := by unfold fillL; rw [List.length_reverse, fillR_len, List.length_reverse]
def S_group_sizes : DSp := fun as R Q => ∃ (x : PyData) (lim : Int) (gs : List (Int × Int)), as = [.d x] ∧ WellIs x lim gs ∧ gs.length ≤ 14 ∧ Q (.f (ilD (gs.map (·.2)))) []
/-- group_sizes -/
def w_group_sizes_g1 : TGd :=
  (gN 1)
def w_group_sizes_e1 : TD :=
  (dOp ixD (aVar 1) (aOf (dC (.int 1))))
def w_group_sizes : TSd :=
  (sRet (dComp [1] (iSeq (dOp ixD (aVar 0) (aOf (dC (.int 1))))) w_group_sizes_g1 tYesD w_group_sizes_e1))
theorem gz_loop (s0 : Sl) (Q : List PyData → DSt → Prop) : ∀ (bl : List PyData) (gs : List (Int × Int)), Paired GrpIs bl gs → ∀ (acc : List Int) (s1 : Sl), acc.length + gs.length ≤ 1000 →
    (∀ s1, Q (ilD (acc ++ gs.map (·.2))) [s0, s1]) → compD [1] w_group_sizes_g1 tYesD w_group_sizes_e1 bl (ilD acc) [s0, s1] Q := by
  intro bl gs h
  induction h with
  | nil => intro acc s1 _ q; simp only [List.map_nil, List.append_nil] at q; exact q _
  | cons hz hs ih =>
    rename_i z g bl gs
    intro acc s1 hl q
    simp only [List.length_cons] at hl
    rw [ev_compC]
    unfold w_group_sizes_g1 w_group_sizes_e1
    walk_at "ee"
    rw [is_ix hz]
    walk_at "ee"
    refine ⟨by unfold ilD; rw [List.length_map]; omega, ?_⟩
    have := ih (acc ++ [g.2]) (.d z) (by simp only [List.length_append, List.length_cons, List.length_nil]; omega) (fun s1 => by rw [List.append_assoc]; exact q s1)
    unfold ilD at this ⊢
    rw [List.map_append (l₁ := acc)] at this
    exact this
theorem is_seq {x : PyData} {xs : List PyData} (h : SeqIs x xs) (k : List PyData → Prop) : seqV x k = k xs := by
  rcases h with rfl | rfl <;> rfl
theorem b_group_sizes (as : List Ag) (m : Addr) (R : RXc) (Q : Rs → List (List PyData) → Prop) (hl : as.length = 1) (h : S_group_sizes as R Q) : w_group_sizes (dEnds as m Q noR) (dStart 2 as m) := by
  obtain ⟨x, lim, gs, rfl, ⟨b, bl, h1, h2, h3⟩, hg, q⟩ := h
  unfold w_group_sizes
  walk_at "ee"
  rw [is_ix h1]
  walk_at "ee"
  rw [is_seq h2]
  walk_at "ee"
  refine gz_loop _ _ bl gs h3 [] _ (by simp only [List.length_nil]; omega) (fun s1 => ?_)
  rw [List.nil_append]
  walk_at "ee"
  exact q
/-- a segment's people in the end -/
def segT (lim : Int) (gs : List (Int × Int)) (st : List Int) (l : List Int) : List Int := fillL (l.map (szOf gs)) (if cutB lim gs (l.headD 0) = true then (l.map (stAt st)).sum else (l.map (szOf gs)).sum)
def S_terminal_state : DSp := fun as R Q => ∃ (x y : PyData) (lim : Int) (gs : List (Int × Int)) (st : List Int), as = [.d x, .d y] ∧ WellIs x lim gs ∧ gs.length ≤ 14 ∧ SeqIs y (ilD st) ∧ st.length = gs.length ∧ ∀ ss, SegOk (cutB lim gs) gs.length 0 ss → Q (.d (stD (ss.flatMap (segT lim gs st)))) []
/-- terminal_state -/
def w_terminal_state_g2 : TGd :=
  (gN 7)
def w_terminal_state_e2 : TD :=
  (dOp ixD (aVar 1) (aVar 7))
def w_terminal_state_g3 : TGd :=
  (gN 7)
def w_terminal_state_e3 : TD :=
  (dOp ixD (aVar 2) (aVar 7))
def w_terminal_state_g1 : TGd :=
  (gN 4)
def w_terminal_state_b1 : TSd :=
  (sSeq (sSet 5 (dComp [7] (iSeq (dVar 4)) w_terminal_state_g3 tYesD w_terminal_state_e3))
  (sSeq (sSet 6 (dCB sumK (aCons (aVar 5) aNil)))
  (sSeq (sIf (dTest (dCallN 2 S_starts_ungrounded (aCons (aOf (dVar 0)) (aCons (aOf (dOp ixD (aVar 4) (aOf (dC (.int 0))))) aNil)))) (sSet 6 (dCB sumK (aCons (aOf (dComp [7] (iSeq (dVar 4)) w_terminal_state_g2 tYesD w_terminal_state_e2)) aNil))) sNext)
  (sExt 3 (dCallN 2 S_heaviest_first (aCons (aOf (dVar 5)) (aCons (aOf (dVar 6)) aNil)))))))
def w_terminal_state : TSd :=
  (sSeq (sSet 2 (dCallN 1 S_group_sizes (aCons (aOf (dVar 0)) aNil)))
  (sSeq (sSet 3 (dLst dNil))
  (sSeq (sFor (iSeq (dCallN 1 S_segments (aCons (aOf (dVar 0)) aNil))) w_terminal_state_g1
  w_terminal_state_b1)
  (sRet (dCB tupleK (aCons (aVar 3) aNil))))))
theorem ts_a (s0 s1 s2 s3 s4 s5 s6 : Sl) (gs : List (Int × Int)) (e2 : s2 = .o none (ilD (gs.map (·.2)))) (Q : List PyData → DSt → Prop) : ∀ (n : Nat) (k : Int) (acc : List Int) (s7 : Sl), 0 ≤ k → k + n ≤ gs.length → acc.length + n ≤ 1000 →
    (∀ s7, Q (ilD (acc ++ (rngI k n).map (szOf gs))) [s0, s1, s2, s3, s4, s5, s6, s7]) →
    compD [7] w_terminal_state_g3 tYesD w_terminal_state_e3 (ilD (rngI k n)) (ilD acc) [s0, s1, s2, s3, s4, s5, s6, s7] Q := by
  subst e2
  intro n
  induction n with
  | zero => intro k acc s7 _ _ _ q; simp only [rngI, List.map_nil, List.append_nil] at q; exact q _
  | succ n ih =>
    intro k acc s7 h0 h1 h2 q
    have e0 : ilD (rngI k (n + 1)) = .int k :: ilD (rngI (k + 1) n) := rfl
    have az : atI (ilD (gs.map (·.2))) k = some (.int (szOf gs k)) := by
      unfold ilD
      rw [atI_map, atI_map, atI_in gs k h0 (by omega)]
      unfold szOf
      rw [List.getElem?_eq_getElem (by omega)]
      rfl
    rw [e0, ev_compC]
    unfold w_terminal_state_g3 w_terminal_state_e3
    walk_at "ee"
    rw [az]
    walk_at "ee"
    refine ⟨by unfold ilD; rw [List.length_map]; omega, ?_⟩
    have := ih (k + 1) (acc ++ [szOf gs k]) (.d (.int k)) (by omega) (by omega) (by simp only [List.length_append, List.length_cons, List.length_nil]; omega) (fun s7 => by
      have := q s7
      rw [rngI, List.map_cons] at this
      rw [List.append_assoc]
      exact this)
    unfold ilD at this ⊢
    rw [List.map_append (l₁ := acc)] at this
    exact this
theorem ts_b (s0 s2 s3 s4 s5 s6 : Sl) (y : PyData) (st : List Int) (hy : SeqIs y (ilD st)) (Q : List PyData → DSt → Prop) : ∀ (n : Nat) (k : Int) (acc : List Int) (s7 : Sl), 0 ≤ k → k + n ≤ st.length → acc.length + n ≤ 1000 →
    (∀ s7, Q (ilD (acc ++ (rngI k n).map (stAt st))) [s0, .d y, s2, s3, s4, s5, s6, s7]) →
    compD [7] w_terminal_state_g2 tYesD w_terminal_state_e2 (ilD (rngI k n)) (ilD acc) [s0, .d y, s2, s3, s4, s5, s6, s7] Q := by
  intro n
  induction n with
  | zero => intro k acc s7 _ _ _ q; simp only [rngI, List.map_nil, List.append_nil] at q; exact q _
  | succ n ih =>
    intro k acc s7 h0 h1 h2 q
    have e0 : ilD (rngI k (n + 1)) = .int k :: ilD (rngI (k + 1) n) := rfl
    rw [e0, ev_compC]
    unfold w_terminal_state_g2 w_terminal_state_e2
    walk_at "ee"
    rw [is_ix hy, at_st st k h0 (by omega)]
    walk_at "ee"
    refine ⟨by unfold ilD; rw [List.length_map]; omega, ?_⟩
    have := ih (k + 1) (acc ++ [stAt st k]) (.d (.int k)) (by omega) (by omega) (by simp only [List.length_append, List.length_cons, List.length_nil]; omega) (fun s7 => by
      have := q s7
      rw [rngI, List.map_cons] at this
      rw [List.append_assoc]
      exact this)
    unfold ilD at this ⊢
    rw [List.map_append (l₁ := acc)] at this
    exact this
theorem ext_at (D : DEnds) (s0 s1 s2 s4 s7 : Sl) (xs : List PyData) (ps : List Int) (p : Int) (hp : ps.length ≤ 1000) (hx : xs.length ≤ 1000) (h : ∀ s5, D.nx [s0, s1, s2, .o none (xs ++ ilD (fillL ps p)), s4, s5, .d (.int p), s7]) : sExt 3 (dCallN 2 S_heaviest_first (aCons (aOf (dVar 5)) (aCons (aOf (dVar 6)) aNil))) D [s0, s1, s2, .o none xs, s4, .o none (ilD ps), .d (.int p), s7] := by
  unfold sExt
  refine ⟨⟨_, _, rfl⟩, ?_⟩
  walk_at "ee"
  refine ⟨ps, p, rfl, hp, ?_⟩
  have l : (ilD (fillL ps p)).length = ps.length := by unfold ilD; rw [List.length_map, fillL_len]
  walk_at "ee"
  exact ⟨by omega, h _⟩
theorem ts_loop (x y : PyData) (lim : Int) (gs : List (Int × Int)) (st : List Int) (hx : WellIs x lim gs) (hg : gs.length ≤ 14) (hy : SeqIs y (ilD st)) (hs : st.length = gs.length) (D : DEnds) : ∀ (a : Int) (ss : List (List Int)), SegOk (cutB lim gs) gs.length a ss → 0 ≤ a → ∀ (acc : List Int) (s4 s5 s6 s7 : Sl), acc.length = a →
    (∀ s4 s5 s6 s7, D.nx [.d x, .d y, .o none (ilD (gs.map (·.2))), .o none (ilD (acc ++ ss.flatMap (segT lim gs st))), s4, s5, s6, s7]) →
    forD w_terminal_state_g1 w_terminal_state_b1 D (ss.map segD) [.d x, .d y, .o none (ilD (gs.map (·.2))), .o none (ilD acc), s4, s5, s6, s7] := by
  intro a ss h
  induction h with
  | nil => intro _ acc s4 s5 s6 s7 _ q; simp only [List.flatMap_nil, List.append_nil] at q; exact q _ _ _ _
  | cons hn hm hc hsg ih =>
    rename_i a m ls
    intro h0 acc s4 s5 s6 s7 hl q
    rw [List.map_cons, ev_forC]
    unfold w_terminal_state_g1 w_terminal_state_b1
    rw [show segD (rngI a (m + 1)) = .list (ilD (rngI a (m + 1))) from rfl]
    walk_at "ee"
    refine ts_a _ _ _ _ _ _ _ gs rfl _ (m + 1) a [] _ h0 (by omega) (by simp only [List.length_nil]; omega) (fun s7 => ?_)
    rw [List.nil_append]
    walk_at "ee"
    have at0 : atI (ilD (rngI a (m + 1))) 0 = some (.int a) := by rw [atI_in _ 0 (by decide) (by unfold ilD; rw [List.length_map, rngI_len]; omega)]; rfl
    refine ⟨_, rfl, ?_⟩
    rw [at0]
    walk_at "ee"
    refine ⟨x, lim, gs, a, rfl, hx, h0, by omega, ?_⟩
    have ll : ((rngI a (m + 1)).map (szOf gs)).length = m + 1 := by rw [List.length_map, rngI_len]
    have fin : ∀ p s4 s5 s6 s7, p = (if cutB lim gs a = true then ((rngI a (m + 1)).map (stAt st)).sum else ((rngI a (m + 1)).map (szOf gs)).sum) → forD w_terminal_state_g1 w_terminal_state_b1 D (ls.map segD) [.d x, .d y, .o none (ilD (gs.map (·.2))), .o none (ilD acc ++ ilD (fillL ((rngI a (m + 1)).map (szOf gs)) p)), s4, s5, s6, s7] := fun p s4 s5 s6 s7 e => by
      have es : segT lim gs st (rngI a (m + 1)) = fillL ((rngI a (m + 1)).map (szOf gs)) p := by rw [e]; rfl
      have := ih (by omega) (acc ++ segT lim gs st (rngI a (m + 1))) s4 s5 s6 s7 (by rw [List.length_append, es, fillL_len, ll]; omega) (fun s4 s5 s6 s7 => by
        have := q s4 s5 s6 s7
        rw [List.flatMap_cons] at this
        rw [List.append_assoc]
        exact this)
      rw [es] at this
      unfold ilD at this ⊢
      rw [List.map_append (l₁ := acc)] at this
      exact this
    cases c : cutB lim gs a with
    | true =>
      walk_at "ee"
      refine ts_b _ _ _ _ _ _ y st hy _ (m + 1) a [] _ h0 (by omega) (by simp only [List.length_nil]; omega) (fun s7 => ?_)
      rw [List.nil_append]
      walk_at "ee"
      refine ⟨_, rfl, ?_⟩
      refine ext_at _ _ _ _ _ _ (ilD acc) _ _ (by omega) (by unfold ilD; rw [List.length_map]; omega) (fun s5 => ?_)
      walk_at "ee"
      exact fin _ _ _ _ _ (by rw [c]; rfl)
    | false =>
      walk_at "ee"
      refine ext_at _ _ _ _ _ _ (ilD acc) _ _ (by omega) (by unfold ilD; rw [List.length_map]; omega) (fun s5 => ?_)
      walk_at "ee"
      exact fin _ _ _ _ _ (by rw [c]; rfl)
theorem b_terminal_state (as : List Ag) (m : Addr) (R : RXc) (Q : Rs → List (List PyData) → Prop) (hl : as.length = 2) (h : S_terminal_state as R Q) : w_terminal_state (dEnds as m Q noR) (dStart 8 as m) := by
  obtain ⟨x, y, lim, gs, st, rfl, hx, hg, hy, hs, q⟩ := h
  unfold w_terminal_state
  walk_at "ee"
  refine ⟨x, lim, gs, rfl, hx, hg, ?_⟩
  walk_at "ee"
  refine ⟨x, lim, gs, rfl, hx, hg, fun ss hss => ?_⟩
  walk_at "ee"
  refine ts_loop x y lim gs st hx hg hy hs _ 0 ss hss (by decide) [] _ _ _ _ rfl (fun s4 s5 s6 s7 => ?_)
  rw [List.nil_append]
  walk_at "ee"
  exact q ss hss
end LW

namespace LW
open PySem L2 DL
/-! ### the suffix counts of the terminal state -/
theorem rngI_mem : ∀ (n : Nat) (a k : Int), k ∈ rngI a n → a ≤ k ∧ k < a + n := by
  intro n
  induction n with
  | zero => intro a k h; simp [rngI] at h
  | succ n ih =>
    intro a k h
    rw [rngI, List.mem_cons] at h
    rcases h with h | h
    · omega
    · have := ih _ _ h; omega
theorem sum_nonneg : ∀ (ns : List Int), (∀ z ∈ ns, 0 ≤ z) → 0 ≤ ns.sum
  | [], _ => by simp
  | z :: ns, h => by
    have := sum_nonneg ns (fun z m => h z (by simp [m]))
    have := h z (by simp)
    rw [List.sum_cons]; omega
theorem sum_rev : ∀ (ns : List Int), ns.reverse.sum = ns.sum
  | [] => rfl
  | z :: ns => by rw [List.reverse_cons, List.sum_append, sum_rev ns, List.sum_cons, List.sum_cons, List.sum_nil]; omega
theorem fillR_take : ∀ (rs : List Int) (p : Int) (j : Nat), (∀ r ∈ rs, 0 ≤ r) → 0 ≤ p → ((fillR rs p).take j).sum = min p ((rs.take j).sum)
  | [], p, j, _, h => by simp [fillR]; omega
  | r :: rs, p, 0, _, h => by simp; omega
  | r :: rs, p, j + 1, hr, h => by
    have h0 := hr r (by simp)
    have hs := sum_nonneg (rs.take j) (fun z m => hr z (by simp [List.mem_of_mem_take m]))
    have ih := fillR_take rs (p - (if p < r then p else r)) j (fun z m => hr z (by simp [m])) (by split <;> omega)
    rw [fillR, List.take_succ_cons, List.take_succ_cons, List.sum_cons, List.sum_cons, ih]
    split <;> omega
theorem fill_suffix (ps : List Int) (p : Int) (i : Nat) (hi : i ≤ ps.length) (hr : ∀ r ∈ ps, 0 ≤ r) (h : 0 ≤ p) : ((fillL ps p).drop i).sum = min p ((ps.drop i).sum) := by
  unfold fillL
  rw [List.drop_reverse, sum_rev, fillR_take _ _ _ (fun r m => hr r (List.mem_reverse.mp m)) h, fillR_len, List.length_reverse]
  have e : (ps.reverse.take (ps.length - i)).sum = (ps.drop i).sum := by
    rw [List.take_reverse, sum_rev, show ps.length - (ps.length - i) = i by omega]
  rw [e]
theorem seg_split {c : Int → Bool} {n : Int} {F : List Int → List Int} (hF : ∀ l, (F l).length = l.length) : ∀ {a : Int} {ss : List (List Int)}, SegOk c n a ss → (a = 0 ∨ c a = true) → ∀ k : Int, a ≤ k → k < n →
    ∃ (a' : Int) (m : Nat) (pre post : List Int), ss.flatMap F = pre ++ F (rngI a' (m + 1)) ++ post ∧ (pre.length : Int) = a' - a ∧ a' ≤ k ∧ k ≤ a' + m ∧ noCut c a' m ∧ a' + m + 1 ≤ n ∧ (a' + m + 1 = n ∨ c (a' + m + 1) = true) ∧ (a' = 0 ∨ c a' = true) := by
  intro a ss h
  induction h with
  | nil => intro _ k h1 h2; omega
  | cons hn hm hc hs ih =>
    rename_i a m ls
    intro h0 k h1 h2
    by_cases e : k ≤ a + m
    · exact ⟨a, m, [], ls.flatMap F, by rw [List.flatMap_cons, List.nil_append], by simp, h1, e, hn, hm, hc, h0⟩
    · obtain ⟨a', m', pre, post, e1, e2, e3, e4, e5, e6, e7, e8⟩ := ih (hc.elim (fun z => by omega) .inr) k (by omega) h2
      refine ⟨a', m', F (rngI a (m + 1)) ++ pre, post, ?_, ?_, e3, e4, e5, e6, e7, e8⟩
      · rw [List.flatMap_cons, e1]; simp only [List.append_assoc]
      · rw [List.length_append, hF, rngI_len]; omega
theorem segT_len (lim : Int) (gs : List (Int × Int)) (st : List Int) (l : List Int) : (segT lim gs st l).length = l.length := by unfold segT; rw [fillL_len, List.length_map]
theorem flat_len {c : Int → Bool} {n : Int} {F : List Int → List Int} (hF : ∀ l, (F l).length = l.length) : ∀ {a : Int} {ss : List (List Int)}, SegOk c n a ss → ((ss.flatMap F).length : Int) = n - a := by
  intro a ss h
  induction h with
  | nil => simp
  | cons hn hm hc hs ih => rw [List.flatMap_cons, List.length_append, hF, rngI_len]; omega
/-- people of a segment that the end has at the bottom -/
def segP (lim : Int) (gs : List (Int × Int)) (st : List Int) (a : Int) (m : Nat) : Int := if cutB lim gs a = true then ((rngI a (m + 1)).map (stAt st)).sum else ((rngI a (m + 1)).map (szOf gs)).sum
theorem drop_rngI : ∀ (i n : Nat) (a : Int), i ≤ n → (rngI a n).drop i = rngI (a + i) (n - i)
  | 0, n, a, _ => by simp
  | i + 1, 0, a, h => by omega
  | i + 1, n + 1, a, h => by
    rw [rngI, List.drop_succ_cons, drop_rngI i n (a + 1) (by omega), show n + 1 - (i + 1) = n - i by omega]
    congr 1; omega
theorem term_sc {lim : Int} {gs : List (Int × Int)} (hw : WellOk lim gs) {st : List Int} (hs : StOk gs st) {ss : List (List Int)} (h : SegOk (cutB lim gs) gs.length 0 ss) (k : Int) (h0 : 0 ≤ k) (h1 : k < gs.length) :
    ∃ (a : Int) (m : Nat), 0 ≤ a ∧ a ≤ k ∧ k ≤ a + m ∧ noCut (cutB lim gs) a m ∧ a + m + 1 ≤ gs.length ∧ (a + m + 1 = gs.length ∨ cutB lim gs (a + m + 1) = true) ∧ (a = 0 ∨ cutB lim gs a = true) ∧
      0 ≤ segP lim gs st a m ∧ ∀ k' : Int, a ≤ k' → k' ≤ a + m → scRun lim gs (ss.flatMap (segT lim gs st)) k' = min (segP lim gs st a m) (((rngI k' (a + m + 1 - k').toNat).map (szOf gs)).sum) := by
  obtain ⟨a, m, pre, post, e1, e2, e3, e4, e5, e6, e7, e8⟩ := seg_split (segT_len lim gs st) h (.inl rfl) k h0 h1
  have hl := flat_len (segT_len lim gs st) h
  have mem : ∀ r ∈ (rngI a (m + 1)).map (szOf gs), 0 ≤ r := fun r hr => by
    obtain ⟨i, hi, rfl⟩ := List.mem_map.mp hr
    obtain ⟨i1, i2⟩ := rngI_mem _ _ _ hi
    have := sz_pos hw i (by omega) (by omega)
    omega
  have mem2 : ∀ r ∈ (rngI a (m + 1)).map (stAt st), 0 ≤ r := fun r hr => by
    obtain ⟨i, hi, rfl⟩ := List.mem_map.mp hr
    obtain ⟨i1, i2⟩ := rngI_mem _ _ _ hi
    exact (stok_stAt hs i (by omega) (by omega)).1
  have pp : 0 ≤ segP lim gs st a m := by
    unfold segP
    split
    · exact sum_nonneg _ mem2
    · exact sum_nonneg _ mem
  refine ⟨a, m, by omega, e3, e4, e5, e6, e7, e8, pp, fun k' g0 g1 => ?_⟩
  have hr := run_sum (c := cutB lim gs) (st := ss.flatMap (segT lim gs st)) (n := (gs.length : Int)) (e := a + m) (by omega) (by omega) e7 (a + m - k').toNat k' (by omega) (by omega) (fun i i1 i2 => e5 i (by omega) (by omega))
  show runS _ _ _ _ = _
  rw [← hr, e1]
  have sl : (segT lim gs st (rngI a (m + 1))).length = m + 1 := by rw [segT_len, rngI_len]
  have ed : (List.drop k'.toNat (pre ++ segT lim gs st (rngI a (m + 1)) ++ post)).take ((a + m - k').toNat + 1) = (segT lim gs st (rngI a (m + 1))).drop (k' - a).toNat := by
    rw [List.append_assoc, List.drop_append, List.drop_eq_nil_of_le (by omega : pre.length ≤ k'.toNat), List.nil_append, show k'.toNat - pre.length = (k' - a).toNat by omega, List.drop_append_of_le_length (by omega)]
    exact List.take_left' (by rw [List.length_drop]; omega)
  rw [ed]
  have hd : (rngI a (m + 1)).headD 0 = a := rfl
  have es : segT lim gs st (rngI a (m + 1)) = fillL ((rngI a (m + 1)).map (szOf gs)) (segP lim gs st a m) := rfl
  rw [es, fill_suffix _ _ _ (by rw [List.length_map, rngI_len]; omega) mem pp, ← List.map_drop, drop_rngI _ _ _ (by omega)]
  have ea : a + ((k' - a).toNat : Int) = k' := by omega
  have eb : m + 1 - (k' - a).toNat = (a + m + 1 - k').toNat := by omega
  rw [ea, eb]
theorem run_rng {c : Int → Bool} {f : Int → Int} {n : Int} : ∀ (j : Nat) (k : Int), noCut c k j → k + j + 1 ≤ n → (k + j + 1 = n ∨ c (k + j + 1) = true) → runS c f k (n - k).toNat = ((rngI k (j + 1)).map f).sum := by
  intro j
  induction j with
  | zero =>
    intro k _ h1 h2
    have e : (n - k).toNat = (n - (k + 1)).toNat + 1 := by omega
    rw [e, runS]
    simp only [rngI, List.map_cons, List.map_nil, List.sum_cons, List.sum_nil]
    rcases h2 with h | h
    · have : (n - (k + 1)).toNat = 0 := by omega
      rw [this, runS]; split <;> rfl
    · have h : c (k + 1) = true := by simpa using h
      rw [if_pos h]
  | succ j ih =>
    intro k h0 h1 h2
    have e : (n - k).toNat = (n - (k + 1)).toNat + 1 := by omega
    have ek : k + ((j + 1 : Nat) : Int) + 1 = k + 1 + j + 1 := by omega
    rw [ek] at h2
    rw [e, runS, h0 (k + 1) (by omega) (by omega), ih (k + 1) (fun i i1 i2 => h0 i (by omega) (by omega)) (by omega) h2, show rngI k (j + 1 + 1) = k :: rngI (k + 1) (j + 1) from rfl, List.map_cons, List.sum_cons]
    simp
theorem sum_mono (f g : Int → Int) : ∀ (n : Nat) (a : Int), (∀ k, a ≤ k → k < a + n → f k ≤ g k) → ((rngI a n).map f).sum ≤ ((rngI a n).map g).sum
  | 0, a, _ => by simp [rngI]
  | n + 1, a, h => by
    have h0 := h a (by omega) (by omega)
    have := sum_mono f g n (a + 1) (fun k h1 h2 => h k (by omega) (by omega))
    rw [rngI, List.map_cons, List.map_cons, List.sum_cons, List.sum_cons]; omega
theorem sum_tail (f : Int → Int) (a : Int) (m : Nat) (hf : ∀ i, a ≤ i → i ≤ a + m → 0 ≤ f i) (k : Int) (h0 : a ≤ k) (h1 : k ≤ a + m) : ((rngI k (a + m + 1 - k).toNat).map f).sum ≤ ((rngI a (m + 1)).map f).sum := by
  have e : m + 1 = (k - a).toNat + (a + m + 1 - k).toNat := by omega
  rw [e, rngI_app, List.map_append, List.sum_append, show a + ((k - a).toNat : Int) = k by omega]
  have := sum_nonneg ((rngI a (k - a).toNat).map f) (fun r hr => by
    obtain ⟨i, hi, rfl⟩ := List.mem_map.mp hr
    obtain ⟨i1, i2⟩ := rngI_mem _ _ _ hi
    exact hf i i1 (by omega))
  omega
/-- every state leads up to its terminal state -/
theorem term_up {lim : Int} {gs : List (Int × Int)} (hw : WellOk lim gs) {st : List Int} (hs : StOk gs st) {ss : List (List Int)} (h : SegOk (cutB lim gs) gs.length 0 ss) : Up lim gs st (ss.flatMap (segT lim gs st)) := by
  intro k h0 h1
  obtain ⟨a, m, a0, ak, ka, nc, am, en, ac, _, e⟩ := term_sc hw hs h k h0 h1
  have e := e k ak ka
  have r := run_rng (c := cutB lim gs) (f := stAt st) (n := (gs.length : Int)) (a + m - k).toNat k (fun i i1 i2 => nc i (by omega) (by omega)) (by omega) (by rw [show k + ((a + m - k).toNat : Int) + 1 = a + m + 1 by omega]; exact en)
  rw [show (a + m - k).toNat + 1 = (a + m + 1 - k).toNat by omega] at r
  have s1 : ((rngI k (a + m + 1 - k).toNat).map (stAt st)).sum ≤ ((rngI k (a + m + 1 - k).toNat).map (szOf gs)).sum := sum_mono _ _ _ _ (fun i i1 i2 => (stok_stAt hs i (by omega) (by omega)).2)
  have s2 := sum_tail (stAt st) a m (fun i i1 i2 => (stok_stAt hs i (by omega) (by omega)).1) k ak ka
  have s3 := sum_tail (szOf gs) a m (fun i i1 i2 => by have := sz_pos hw i (by omega) (by omega); omega) k ak ka
  have er : scRun lim gs st k = ((rngI k (a + m + 1 - k).toNat).map (stAt st)).sum := r
  rw [e, er]
  unfold segP
  constructor
  · split <;> omega
  · intro ck
    have eak : a = k := by
      by_cases z : a = k
      · exact z
      · rw [nc k (by omega) (by omega)] at ck; cases ck
    subst eak
    rw [if_pos ck]
    have em : (a + m + 1 - a).toNat = m + 1 := by omega
    rw [em] at s1 ⊢
    omega
/-- sizes of a segment from k on -/
def sufS (gs : List (Int × Int)) (e k : Int) : Int := ((rngI k (e + 1 - k).toNat).map (szOf gs)).sum
theorem sufS_step (gs : List (Int × Int)) (e k : Int) (h : k ≤ e) : sufS gs e k = szOf gs k + sufS gs e (k + 1) := by
  unfold sufS
  have : (e + 1 - k).toNat = (e + 1 - (k + 1)).toNat + 1 := by omega
  rw [this, rngI, List.map_cons, List.sum_cons]
theorem sufS_end (gs : List (Int × Int)) (e : Int) : sufS gs e (e + 1) = 0 := by
  unfold sufS
  have : (e + 1 - (e + 1)).toNat = 0 := by omega
  rw [this]; rfl
theorem term_at {lim : Int} {gs : List (Int × Int)} (hw : WellOk lim gs) {st : List Int} (hs : StOk gs st) {ss : List (List Int)} (h : SegOk (cutB lim gs) gs.length 0 ss) (k : Int) (h0 : 0 ≤ k) (h1 : k < gs.length) :
    ∃ (a : Int) (m : Nat) (P : Int), 0 ≤ a ∧ a ≤ k ∧ k ≤ a + m ∧ a + m + 1 ≤ gs.length ∧ (a = 0 ∨ cutB lim gs a = true) ∧ 0 ≤ P ∧ (cutB lim gs a = false → P = sufS gs (a + m) a) ∧
      ∀ k' : Int, a ≤ k' → k' ≤ a + m → stAt (ss.flatMap (segT lim gs st)) k' = min P (sufS gs (a + m) k') - min P (sufS gs (a + m) (k' + 1)) := by
  obtain ⟨a, m, a0, ak, ka, nc, am, en, ac, pp, e⟩ := term_sc hw hs h k h0 h1
  refine ⟨a, m, segP lim gs st a m, a0, ak, ka, am, ac, pp, fun z => ?_, fun k' g0 g1 => ?_⟩
  · unfold segP sufS
    rw [if_neg (by rw [z]; decide), show (a + m + 1 - a).toNat = m + 1 by omega]
  · have b := e k' g0 g1
    rw [sc_step _ _ _ k' (by omega)] at b
    have eS : sufS gs (a + m) k' = ((rngI k' (a + m + 1 - k').toNat).map (szOf gs)).sum := rfl
    rw [← eS] at b
    by_cases z : k' = a + m
    · have e0 : sufS gs (a + m) (k' + 1) = 0 := by rw [z, sufS_end]
      rw [e0]
      have en' : k' + 1 = gs.length ∨ cutB lim gs (k' + 1) = true := by rw [z]; exact en
      rcases en' with en' | en'
      · rw [en', sc_end] at b
        split at b <;> omega
      · rw [if_pos en'] at b; omega
    · have b2 := e (k' + 1) (by omega) (by omega)
      have eS2 : sufS gs (a + m) (k' + 1) = ((rngI (k' + 1) (a + m + 1 - (k' + 1)).toNat).map (szOf gs)).sum := rfl
      rw [← eS2] at b2
      rw [nc (k' + 1) (by omega) (by omega), b2] at b
      simp only [Bool.false_eq_true, if_false] at b
      omega
theorem sufS_mono {lim : Int} {gs : List (Int × Int)} (hw : WellOk lim gs) (e : Int) (he : e < gs.length) : ∀ (d : Nat) (k : Int), 0 ≤ k → k + d ≤ e + 1 → sufS gs e (k + d) ≤ sufS gs e k := by
  intro d
  induction d with
  | zero => intro k _ _; rw [show k + ((0 : Nat) : Int) = k by omega]; exact Int.le_refl _
  | succ d ih =>
    intro k h0 h1
    have := ih (k + 1) (by omega) (by omega)
    have z := sz_pos hw k h0 (by omega)
    rw [sufS_step gs e k (by omega), show k + ((d + 1 : Nat) : Int) = k + 1 + d by omega]
    omega
theorem sufS_nn {lim : Int} {gs : List (Int × Int)} (hw : WellOk lim gs) (e : Int) (he : e < gs.length) (k : Int) (h0 : 0 ≤ k) (h1 : k ≤ e + 1) : 0 ≤ sufS gs e k := by
  have := sufS_mono hw e he (e + 1 - k).toNat k h0 (by omega)
  rw [show k + ((e + 1 - k).toNat : Int) = e + 1 by omega, sufS_end] at this
  exact this
/-- no move is legal in the terminal state -/
theorem term_none {lim : Int} {gs : List (Int × Int)} (hw : WellOk lim gs) {st : List Int} (hs : StOk gs st) {ss : List (List Int)} (h : SegOk (cutB lim gs) gs.length 0 ss) : legMv lim gs (ss.flatMap (segT lim gs st)) = [] := by
  rw [List.eq_nil_iff_forall_not_mem]
  rintro ⟨k, l⟩ hm
  obtain ⟨k0, k1, l0, l1, hlim⟩ := leg_bnd hm
  have lg := (List.mem_filter.mp hm).2
  unfold isLegal at lg
  rw [Bool.and_eq_true, Bool.or_eq_true] at lg
  have g1 := of_decide_eq_true lg.1
  have g2 : 0 ≤ l → 0 < stAt (ss.flatMap (segT lim gs st)) l := fun hl => by
    rcases lg.2 with z | z
    · have := of_decide_eq_true z; simp only at this; omega
    · exact of_decide_eq_true z
  simp only at g1
  obtain ⟨a, m, P, a0, ak, ka, am, ac, pp, cf, e⟩ := term_at hw hs h k k0 k1
  have ek := e k ak ka
  have st1 := sufS_step gs (a + m) k ka
  have hPk : P < sufS gs (a + m) k := by omega
  by_cases c : a ≤ l
  · have el := e l c (by omega)
    have mo := sufS_mono hw (a + m) (by omega) (k - (l + 1)).toNat (l + 1) (by omega) (by omega)
    rw [show l + 1 + ((k - (l + 1)).toNat : Int) = k by omega] at mo
    have stl := sufS_step gs (a + m) l (by omega)
    have zl := sz_pos hw l (by omega) (by omega)
    have := g2 (by omega)
    omega
  · have nca := mv_nocut hw k1 l0 hlim a (by omega) ak
    have := cf nca
    have mo := sufS_mono hw (a + m) (by omega) (k - a).toNat a a0 (by omega)
    rw [show a + ((k - a).toNat : Int) = k by omega] at mo
    omega
theorem stok_of : ∀ {gs : List (Int × Int)} {st : List Int}, st.length = gs.length → (∀ i : Nat, i < gs.length → 0 ≤ (st[i]?).getD 0 ∧ (st[i]?).getD 0 ≤ ((gs[i]?).map (·.2)).getD 0) → StOk gs st
  | [], [], _, _ => .nil
  | g :: gs, s :: st, hl, h => .cons (by simpa using h 0 (by simp)) (stok_of (by simpa using hl) fun i hi => by
    have := h (i + 1) (by simp only [List.length_cons]; omega)
    simpa using this)
  | [], _ :: _, h, _ => by simp at h
  | _ :: _, [], h, _ => by simp at h
theorem term_ok {lim : Int} {gs : List (Int × Int)} (hw : WellOk lim gs) {st : List Int} (hs : StOk gs st) {ss : List (List Int)} (h : SegOk (cutB lim gs) gs.length 0 ss) : StOk gs (ss.flatMap (segT lim gs st)) := by
  have hl := flat_len (segT_len lim gs st) h
  refine stok_of (by omega) fun i hi => ?_
  obtain ⟨a, m, P, a0, ak, ka, am, ac, pp, cf, e⟩ := term_at hw hs h (i : Int) (by omega) (by omega)
  have ek := e i ak ka
  have st1 := sufS_step gs (a + m) i ka
  have zk := sz_pos hw i (by omega) (by omega)
  have nn := sufS_nn hw (a + m) (by omega) (i + 1) (by omega) (by omega)
  have e1 : stAt (ss.flatMap (segT lim gs st)) (i : Int) = ((ss.flatMap (segT lim gs st))[i]?).getD 0 := rfl
  have e2 : szOf gs (i : Int) = ((gs[i]?).map (·.2)).getD 0 := rfl
  omega
/-- a state from which the terminal state can be reached and in which no move is legal is that state -/
theorem term_uniq {lim : Int} {gs : List (Int × Int)} (hw : WellOk lim gs) {st tt : List Int} (hs : StOk gs st) (ht : StOk gs tt) (up : Up lim gs st tt) (hn : legMv lim gs st = []) : st = tt := by
  have cp := crs_pos up
  by_cases z : (crs lim gs st tt).sum = 0
  · exact sc_inj hs.len ht.len (cp.2 z)
  · obtain ⟨j, jm, _⟩ := lay_ex hw hs ht up (by omega)
    rw [hn] at jm; cases jm
theorem seg_unique {c : Int → Bool} {n : Int} : ∀ {a : Int} {s1 s2 : List (List Int)}, SegOk c n a s1 → SegOk c n a s2 → s1 = s2 := by
  intro a s1 s2 h1
  induction h1 generalizing s2 with
  | nil =>
    intro h2
    cases h2 with
    | nil => rfl
    | cons hn hm hc hs => omega
  | cons hn hm hc hs ih =>
    rename_i a m ls
    intro h2
    cases h2 with
    | nil => omega
    | cons hn2 hm2 hc2 hs2 =>
      rename_i m2 ls2
      have e : m = m2 := by
        rcases Nat.lt_trichotomy m m2 with z | z | z
        · rcases hc with y | y
          · omega
          · rw [hn2 (a + m + 1) (by omega) (by omega)] at y; cases y
        · exact z
        · rcases hc2 with y | y
          · omega
          · rw [hn (a + m2 + 1) (by omega) (by omega)] at y; cases y
      subst e
      rw [ih hs2]
/-- on the way the terminal state stays -/
theorem term_same {lim : Int} {gs : List (Int × Int)} {st tt : List Int} (up : Up lim gs st tt) : ∀ {a : Int} {ss : List (List Int)}, SegOk (cutB lim gs) gs.length a ss → 0 ≤ a → ss.flatMap (segT lim gs tt) = ss.flatMap (segT lim gs st) := by
  intro a ss h
  induction h with
  | nil => intro _; rfl
  | cons hn hm hc hs ih =>
    rename_i a m ls
    intro h0
    rw [List.flatMap_cons, List.flatMap_cons, ih (by omega)]
    congr 1
    unfold segT
    have hd : (rngI a (m + 1)).headD 0 = a := rfl
    rw [hd]
    cases c : cutB lim gs a with
    | false => rfl
    | true =>
      have e := (up a h0 (by omega)).2 c
      have r1 := run_rng (c := cutB lim gs) (f := stAt st) (n := (gs.length : Int)) m a hn hm hc
      have r2 := run_rng (c := cutB lim gs) (f := stAt tt) (n := (gs.length : Int)) m a hn hm hc
      have e' : runS (cutB lim gs) (stAt st) a ((gs.length : Int) - a).toNat = runS (cutB lim gs) (stAt tt) a ((gs.length : Int) - a).toNat := e
      rw [r1, r2] at e'
      rw [if_pos rfl, if_pos rfl, e']
end LW

namespace LW
open PySem L2 DL
/-! ### wells whose weights are multiplied -/
def scG (c : Int) (gs : List (Int × Int)) : List (Int × Int) := gs.map fun g => (c * g.1, g.2)
theorem scG_len (c : Int) (gs : List (Int × Int)) : (scG c gs).length = gs.length := by unfold scG; rw [List.length_map]
theorem wt_scG (c : Int) (gs : List (Int × Int)) (k : Int) : wtOf (scG c gs) k = c * wtOf gs k := by
  unfold wtOf scG
  split
  · omega
  · rw [List.getElem?_map]
    cases gs[k.toNat]? with
    | none => simp
    | some g => rfl
theorem sz_scG (c : Int) (gs : List (Int × Int)) (k : Int) : szOf (scG c gs) k = szOf gs k := by
  unfold szOf scG
  rw [List.getElem?_map]
  cases gs[k.toNat]? with
  | none => rfl
  | some g => rfl
theorem mul_le_iff {c lim lim' d : Int} (hc : 1 ≤ c) (h1 : c * lim ≤ lim') (h2 : lim' < c * lim + c) : c * d ≤ lim' ↔ d ≤ lim := by
  constructor
  · intro h
    by_cases z : d ≤ lim
    · exact z
    · exfalso
      have h3 : c * (lim + 1) ≤ c * d := Int.mul_le_mul_of_nonneg_left (by omega) (by omega)
      rw [Int.mul_add, Int.mul_one] at h3
      omega
  · intro h
    have h3 : c * d ≤ c * lim := Int.mul_le_mul_of_nonneg_left h (by omega)
    omega
section
variable {c lim lim' : Int} {gs : List (Int × Int)}
theorem cut_scG (hc : 1 ≤ c) (h1 : c * lim ≤ lim') (h2 : lim' < c * lim + c) : cutB lim' (scG c gs) = cutB lim gs := by
  funext k
  unfold cutB
  rw [wt_scG, wt_scG, ← Int.mul_sub]
  refine decide_eq_decide.mpr ?_
  have := mul_le_iff (d := wtOf gs k - wtOf gs (k - 1)) hc h1 h2
  constructor <;> intro h <;> omega
theorem isMv_scG (hc : 1 ≤ c) (h1 : c * lim ≤ lim') (h2 : lim' < c * lim + c) (k l : Int) : isMv lim' (scG c gs) k l = isMv lim gs k l := by
  unfold isMv
  rw [wt_scG, wt_scG, ← Int.mul_sub, scG_len]
  congr 1
  exact decide_eq_decide.mpr (mul_le_iff hc h1 h2)
theorem lows_scG (hc : 1 ≤ c) (h1 : c * lim ≤ lim') (h2 : lim' < c * lim + c) (k : Int) : ∀ (n : Nat) (lo : Int), lowsOf (scG c gs) k (wtOf (scG c gs) k - lim') lo n = lowsOf gs k (wtOf gs k - lim) lo n
  | 0, _ => rfl
  | n + 1, lo => by
    rw [lowsOf, lowsOf, lows_scG hc h1 h2 k n]
    have := mul_le_iff (d := wtOf gs k - wtOf gs lo) hc h1 h2
    have e : wtOf (scG c gs) k - lim' ≤ wtOf (scG c gs) lo ↔ wtOf gs k - lim ≤ wtOf gs lo := by
      rw [wt_scG, wt_scG]
      rw [Int.mul_sub] at this
      constructor <;> intro h <;> omega
    by_cases z : wtOf gs k - lim ≤ wtOf gs lo
    · rw [if_pos z, if_pos (e.mpr z)]
    · rw [if_neg z, if_neg (fun h => z (e.mp h))]
theorem mvs_scG (hc : 1 ≤ c) (h1 : c * lim ≤ lim') (h2 : lim' < c * lim + c) : ∀ (n : Nat) (k : Int), mvsFrom lim' (scG c gs) k n = mvsFrom lim gs k n
  | 0, _ => rfl
  | n + 1, k => by rw [mvsFrom, mvsFrom, lows_scG hc h1 h2, mvs_scG hc h1 h2 n]
theorem all_scG (hc : 1 ≤ c) (h1 : c * lim ≤ lim') (h2 : lim' < c * lim + c) : allMv lim' (scG c gs) = allMv lim gs := by
  unfold allMv
  rw [scG_len, mvs_scG hc h1 h2]
theorem leg_scG (hc : 1 ≤ c) (h1 : c * lim ≤ lim') (h2 : lim' < c * lim + c) (st : List Int) : legMv lim' (scG c gs) st = legMv lim gs st := by
  unfold legMv
  rw [all_scG hc h1 h2]
  congr 1
  funext p
  unfold isLegal
  rw [sz_scG]
theorem scRun_scG (hc : 1 ≤ c) (h1 : c * lim ≤ lim') (h2 : lim' < c * lim + c) (st : List Int) (k : Int) : scRun lim' (scG c gs) st k = scRun lim gs st k := by
  show runS (cutB lim' (scG c gs)) (stAt st) k ((scG c gs).length - k).toNat = runS (cutB lim gs) (stAt st) k (gs.length - k).toNat
  rw [cut_scG hc h1 h2, scG_len]
theorem scOf_scG (hc : 1 ≤ c) (h1 : c * lim ≤ lim') (h2 : lim' < c * lim + c) (st : List Int) : scOf lim' (scG c gs) st = scOf lim gs st := by
  unfold scOf
  rw [cut_scG hc h1 h2, scG_len]
theorem obs_scG (hc : 1 ≤ c) (h1 : c * lim ≤ lim') (h2 : lim' < c * lim + c) (st tt : List Int) : obsL lim' (scG c gs) st tt = obsL lim gs st tt := by
  unfold obsL
  rw [scG_len]
  congr 1
  funext k
  unfold obsAt
  rw [scRun_scG hc h1 h2, scRun_scG hc h1 h2, cut_scG hc h1 h2]
theorem obsF_scG (hc : 1 ≤ c) (h1 : c * lim ≤ lim') (h2 : lim' < c * lim + c) (st tt : List Int) : obsF lim' (scG c gs) st tt = obsF lim gs st tt := by
  unfold obsF
  rw [obs_scG hc h1 h2]
theorem comp_scG (hc : 1 ≤ c) (h1 : c * lim ≤ lim') (h2 : lim' < c * lim + c) (st tt : List Int) : compB lim' (scG c gs) st tt = compB lim gs st tt := by
  unfold compB
  rw [scG_len]
  congr 1
  funext k
  rw [scRun_scG hc h1 h2, scRun_scG hc h1 h2, cut_scG hc h1 h2]
theorem fromC_scG (hc : 1 ≤ c) (h1 : c * lim ≤ lim') (h2 : lim' < c * lim + c) (f : Int → Int) : fromC lim' (scG c gs) f = fromC lim gs f := by
  unfold fromC
  rw [scG_len, cut_scG hc h1 h2]
theorem join_scG (hc : 1 ≤ c) (h1 : c * lim ≤ lim') (h2 : lim' < c * lim + c) (st tt : List Int) : joinL lim' (scG c gs) st tt = joinL lim gs st tt := by
  unfold joinL
  rw [fromC_scG hc h1 h2]
  congr 1
  funext k
  rw [scRun_scG hc h1 h2, scRun_scG hc h1 h2]
theorem meet_scG (hc : 1 ≤ c) (h1 : c * lim ≤ lim') (h2 : lim' < c * lim + c) (st tt : List Int) : meetL lim' (scG c gs) st tt = meetL lim gs st tt := by
  unfold meetL
  rw [fromC_scG hc h1 h2]
  congr 1
  funext k
  rw [scRun_scG hc h1 h2, scRun_scG hc h1 h2]
theorem segT_scG (hc : 1 ≤ c) (h1 : c * lim ≤ lim') (h2 : lim' < c * lim + c) (st : List Int) (l : List Int) : segT lim' (scG c gs) st l = segT lim gs st l := by
  unfold segT
  rw [cut_scG hc h1 h2]
  have e : szOf (scG c gs) = szOf gs := funext (sz_scG c gs)
  rw [e]
theorem crs_scG (hc : 1 ≤ c) (h1 : c * lim ≤ lim') (h2 : lim' < c * lim + c) (st tt : List Int) : crs lim' (scG c gs) st tt = crs lim gs st tt := by
  unfold crs
  rw [scG_len]
  congr 1
  funext k
  rw [scRun_scG hc h1 h2, scRun_scG hc h1 h2]
end
end LW

namespace LW
open PySem L2 DL
local macro_rules | `(tactic| walk_at "ee") => `(tactic| simp only [↓asB_b, ↓with1_s, ↓with2_s, ↓asI_s, ↓withL_s, ↓withA_s, ↓putI_s, ↓subI_s, ↓as2I_s, ↓appV_s, ↓isO_o, ↓ev_var, ↓ev_vd, ↓ev_vo, ↓ev_c, ↓ev_avar, ↓ev_ad, ↓ev_ao, ↓ev_kz, ↓ev_of, ↓ev_kof, ↓ev_op, ↓ev_op1, ↓ev_op2, ↓ev_op3, ↓ev_un, ↓ev_un1, ↓ev_un2, ↓ev_test, ↓ev_ktest, ↓ev_and, ↓ev_kandT, ↓ev_kandF, ↓ev_or, ↓ev_korT, ↓ev_korF, ↓ev_not, ↓ev_knot, ↓ev_andV, ↓ev_kandV, ↓ev_kandVT, ↓ev_kandVF, ↓ev_orV, ↓ev_korV, ↓ev_korVT, ↓ev_korVF, ↓ev_notV, ↓ev_knotV, ↓ev_knotV2, ↓ev_ifE, ↓ev_kifET, ↓ev_kifEF, ↓ev_chain, ↓ev_ch1, ↓ev_ch2, ↓ev_ch2b, ↓ev_ch3, ↓ev_ch4T, ↓ev_ch4F, ↓ev_ch5, ↓ev_ch6, ↓ev_nil, ↓ev_cons, ↓ev_kcons, ↓ev_kcons2, ↓ev_lst, ↓ev_klst, ↓ev_tup, ↓ev_ktup, ↓ev_rnil, ↓ev_rcons, ↓ev_krcons, ↓ev_krcons2, ↓ev_anil, ↓ev_acons, ↓ev_kacons, ↓ev_kacons2, ↓ev_pnone, ↓ev_psome, ↓ev_kp, ↓ev_kp2, ↓ev_sl, ↓ev_sl1, ↓ev_sl2, ↓ev_sl3, ↓ev_sl4, ↓ev_slL, ↓ev_slT, ↓ev_cb, ↓ev_kcb, ↓ev_kcb2, ↓ev_isi, ↓ev_kisi, ↓ev_kisi2, ↓ev_call, ↓ev_kcall, ↓ev_callK, ↓ev_kcallK, ↓ev_kq, ↓ev_comp, ↓ev_kcomp, ↓ev_kcompE, ↓ev_compN, ↓ev_compC, ↓ev_kc1, ↓ev_kc2T, ↓ev_kc2F, ↓ev_kc3, ↓ev_yes, ↓ev_gn, ↓ev_gnil, ↓ev_gcons, ↓ev_kg, ↓ev_gtup, ↓ev_seqT, ↓ev_seqL, ↓ev_sub, ↓ev_ksub, ↓ev_iseq, ↓ev_kiseq, ↓ev_seqVL, ↓ev_seqVT, ↓ev_kqd, ↓ev_rg1, ↓ev_krg1, ↓ev_krg1b, ↓ev_rg2, ↓ev_krg2, ↓ev_krg2b, ↓ev_krg2c, ↓ev_en, ↓ev_ken, ↓ev_enL, ↓ev_zp, ↓ev_kzp, ↓ev_kzp2, ↓ev_zpL, ↓ev_zpT, ↓ev_zpLT, ↓ev_zpTL, ↓ev_snext, ↓ev_sseq, ↓ev_knx, ↓nx_set, ↓rt_set, ↓bk_set, ↓ct_set, ↓ex_set, ↓nx_for, ↓rt_for, ↓bk_for, ↓ct_for, ↓ex_for, ↓nx_end, ↓rt_end, ↓ex_end, ↓ev_sbrk, ↓ev_scont, ↓ev_sdrop, ↓ev_kdrop, ↓ev_sret, ↓ev_sretN, ↓ev_sif, ↓ev_kifT, ↓ev_kifF, ↓ev_sset, ↓ev_kset, ↓ev_sasg, ↓ev_kasg, ↓ev_saug, ↓ev_kaug, ↓ev_kaug2, ↓ev_kaug3, ↓ev_sapp, ↓ev_kapp, ↓ev_spar, ↓ev_kpar, ↓ev_sfor, ↓ev_kfori, ↓ev_forN, ↓ev_forC, ↓ev_kfor, ↓o_addI, ↓o_addL, ↓o_addT, ↓o_addS, ↓o_sub, ↓o_iadd, ↓o_mod, ↓o_fdiv, ↓o_pow, ↓o_mulI, ↓o_mulL, ↓o_mulT, ↓o_lt, ↓o_le, ↓o_gt, ↓o_ge, ↓o_isB, ↓o_notB, ↓o_isN, ↓o_notN, ↓n_none, ↓n_int, ↓n_bool, ↓n_str, ↓n_list, ↓n_tup, ↓o_neg, ↓o_rev, ↓ixV_s, ↓o_ixL, ↓o_ixT, ↓c_abs, ↓c_intI, ↓c_intB, ↓c_lenL, ↓c_lenT, ↓c_max2, ↓c_min2, ↓c_listL, ↓c_listT, ↓c_tupL, ↓c_tupT, ↓c_divmod, ↓c_str, ↓c_sum1, ↓c_sumT1, ↓c_max1, ↓c_min1, ↓c_all1, ↓c_any1, ↓g_0, ↓g_s, ↓s_0, ↓s_s, ↓v_un, ↓v_d, ↓v_o, ↓res_x, ↓res_v, ↓val_d, ↓val_f, ↓sl_d, ↓sl_f, ↓ag_d, ↓ag_o, ↓cons?_s, ↓ra_nil, ↓cons2?_s, ↓ra_cons, ↓ag_nil, ↓ag_x, ↓agV_s, ↓ag_v, ↓nr_nil, ↓nr_x, ↓nrV_d, ↓nrV_o, ↓nr_v, ↓vx_nil, ↓vx_x, ↓vx_v, ↓putV_o, ↓pb_0, ↓pb_1, ↓pl_nil, ↓pl_0, ↓pl_1, ↓pl_2, ↓pl_3, ↓rd_0, ↓bx_nil, ↓bx_d, ↓bx_o, ↓rd_o, ↓kd_un, ↓kd_d, ↓sa_nil, ↓sa_cons, ↓wp_nil, ↓wp_cons, ↓rs_nil, ↓rs_cons, ↓ev_lc2, ↓ev_klc2, ↓ev_c2N, ↓ev_c2C, ↓ev_k21, ↓ev_k22T, ↓ev_k22F, ↓ev_k23, ↓ev_k24, ↓c_repr, ↓c_sort, ↓ev_callP, ↓ev_peek, ↓ev_peek2, ↓ev_scal, ↓ev_callF, ↓ev_knew, ↓ev_kdat, ↓c_listS, ↓c_tupS, ↓c_lenS, ↓o_well0, ↓o_well1, ↓seqT_g, ↓o_grp0, ↓o_grp1, ↓seqT_m, ↓o_mv0, ↓o_mv1, ↓o_st, ↓ev_lz, ↓ev_klz, ↓ev_klz2, ↓ev_klz3, ↓ev_tru, ↓ev_ktruB, ↓ev_ktruL, ↓ev_ktruF, ↓ev_nest, ↓ev_knest, Rs.val, Rs.sl, Ag.sl, Opd.res, Sl.val, Sl.keepD, isD_n, isD_b, isD_i, isD_s, isD_l, isD_t, eq_self, eqD_int, neD_int, eqD_ll, neD_ll, eqD_tt, neD_tt, eqD_bb, neD_bb, eqD_ss, neD_ss, atI_0, atI_1, atI_2, atI_3, ixN_1_0, ixN_2_0, ixN_2_1, ixN_3_0, ixN_3_1, ixN_3_2, ixN_4_0, ixN_4_1, ixN_4_2, ixN_4_3, dStart, repUn, tYesD, List.map_cons, List.map_nil, List.cons_append, List.nil_append, List.length_cons, List.length_nil, true_and, and_true, ne_eq, not_false_eq_true, reduceCtorEq, Option.some.injEq, Option.map_none, Option.map_some, Nat.reduceAdd, Nat.reduceSub, Nat.reduceLT, Nat.reduceLeDiff, Nat.zero_lt_succ, Nat.le_refl, Bool.not_true, Bool.not_false, decide_true, decide_false, Int.reduceLE, Int.reduceLT, Int.reduceEq, Int.toNat_zero, Int.reduceToNat, Int.reducePow, Int.reduceNeg, Int.toNat_one, List.set_cons_zero, List.set_cons_succ, List.not_mem_nil, List.mem_cons, false_or, or_false, forall_eq, forall_eq_or_imp, if_true, if_false, ite_true, ite_false, Bool.false_eq_true, forall_const, implies_true, false_implies, ↓ev_zc2, ↓ev_kz0, ↓ev_kze, ↓ev_z2N, ↓ev_kz1, ↓ev_kz2T, ↓ev_kz2F, ↓ev_kz3, ↓ev_kz4, ↓ev_y1N, ↓ev_ky1, ↓ev_ky2T, ↓ev_ky2F, ↓ev_ky3, ↓ev_sorn, ↓ev_ksorn])
/-! ### the limits of a well -/
def S_with_limit : DSp := fun as R Q => ∃ (x : PyData) (lim : Int) (gs : List (Int × Int)) (L : Int), as = [.d x, .d (.int L)] ∧ WellIs x lim gs ∧ gs.length ≤ 14 ∧ Q (.d (wellD L gs)) []
/-- with_limit -/
def w_with_limit_g1 : TGd :=
  (gN 2)
def w_with_limit_e1 : TD :=
  (dCB tupleK (aCons (aVar 2) aNil))
def w_with_limit : TSd :=
  (sRet (dTup (dCons (dVar 1) (dCons (dCB tupleK (aCons (aOf (dComp [2] (iSeq (dOp ixD (aVar 0) (aOf (dC (.int 1))))) w_with_limit_g1 tYesD w_with_limit_e1)) aNil)) dNil))))
theorem wl_comp (x : PyData) (L : Int) : ∀ (gs : List (Int × Int)) (bl acc : List PyData) (s : Sl) (Q : List PyData → DSt → Prop), Paired GrpIs bl gs → acc.length + gs.length ≤ 14 → (∀ s, Q (acc ++ gs.map grpD) [.d x, .d (.int L), s]) →
    compD [2] w_with_limit_g1 tYesD w_with_limit_e1 bl acc [.d x, .d (.int L), s] Q := by
  intro gs
  induction gs with
  | nil =>
    intro bl acc s Q h _ q
    cases h
    rw [List.map_nil, List.append_nil] at q
    exact q s
  | cons g gs ih =>
    intro bl acc s Q h hl q
    simp only [List.length_cons] at hl
    cases h with
    | cons h1 h2 =>
      rw [ev_compC]
      unfold w_with_limit_g1 w_with_limit_e1
      have go := fun s => ih _ (acc ++ [grpD g]) s Q h2 (by simp only [List.length_append, List.length_cons, List.length_nil]; omega) (fun s => by
        rw [List.append_assoc]; exact q s)
      rcases h1 with rfl | rfl <;> (
        walk_at "ee"
        exact ⟨by omega, go _⟩)
theorem b_with_limit (as : List Ag) (m : Addr) (R : RXc) (Q : Rs → List (List PyData) → Prop) (hl : as.length = 2) (h : S_with_limit as R Q) : w_with_limit (dEnds as m Q noR) (dStart 3 as m) := by
  obtain ⟨x, lim, gs, L, rfl, ⟨b, bl, hx, hb, hg⟩, g14, q⟩ := h
  unfold w_with_limit
  walk_at "ee"
  rw [is_ix hx, show atI [PyData.int lim, b] 1 = some b from rfl]
  walk_at "ee"
  have go := fun Q s q => wl_comp x L gs bl [] s Q hg (by simp only [List.length_nil]; omega) q
  rcases hb with rfl | rfl <;> (
    walk_at "ee"
    refine go _ _ fun s => ?_
    rw [List.nil_append]
    walk_at "ee"
    exact q)
/-- what one weight exceeds another by -/
def wts (gs : List (Int × Int)) : List Int := 0 :: gs.map (·.1)
def difs1 (h : Int) (ls : List Int) : List Int := ls.map fun l => h - l
def difs (hs ls : List Int) : List Int := hs.flatMap fun h => difs1 h ls
def limsOf (ns : List Int) : List Int := 1 :: ns.filter fun z => decide (1 < z)
def S_possible_limits : DSp := fun as R Q => ∃ (x : PyData) (lim : Int) (gs : List (Int × Int)), as = [.d x] ∧ WellIs x lim gs ∧ gs.length ≤ 14 ∧ ∀ ns : List Int, ns.Pairwise (· < ·) → (∀ k, k ∈ ns ↔ k ∈ difs (wts gs) (wts gs)) → Q (.f (ilD (limsOf ns))) []
/-- _possible_limits -/
def w_possible_limits_g1 (ob : Bool) : TGd :=
  (gN 6)
def w_possible_limits_t1 (ob : Bool) : TTd :=
  (dTest (dOp gtD (aVar 6) (aOf (dC (.int 1)))))
def w_possible_limits_e1 (ob : Bool) : TD :=
  (dVar 6)
def w_possible_limits_g2 (ob : Bool) : TGd :=
  (gN 4)
def w_possible_limits_e2 (ob : Bool) : TD :=
  (dOp subD (aVar 4) (aVar 5))
def w_possible_limits_j2 (ob : Bool) : TDs :=
  (iSeq (dVar 1))
def w_possible_limits_h2 (ob : Bool) : TGd :=
  (gN 5)
def w_possible_limits_g3 (ob : Bool) : TGd :=
  (gN 3)
def w_possible_limits_e3 (ob : Bool) : TD :=
  (dOp ixD (aVar 3) (aOf (dC (.int 0))))
def w_possible_limits (ob : Bool) : TSd :=
  (sSeq (sSet 1 (dOp addD (aOf (dLst (dCons (dC (.int 0)) dNil))) (aOf (dComp [3] (iSeq (dOp ixD (aVar 0) (aOf (dC (.int 1))))) (w_possible_limits_g3 ob) tYesD (w_possible_limits_e3 ob)))))
  (sSeq (sSet 2 (dSetC2 ob [4, 5] [5] (iSeq (dVar 1)) (w_possible_limits_g2 ob) tYesD (w_possible_limits_j2 ob) (w_possible_limits_h2 ob) tYesD (w_possible_limits_e2 ob)))
  (sRet (dOp addD (aOf (dLst (dCons (dC (.int 1)) dNil))) (aOf (dComp [6] (iSeq (dSorN ob (dVar 2))) (w_possible_limits_g1 ob) (w_possible_limits_t1 ob) (w_possible_limits_e1 ob)))))))
theorem pl_w (ob : Bool) (x : PyData) : ∀ (gs : List (Int × Int)) (bl acc : List PyData) (s1 s2 s3 s4 s5 s6 : Sl) (Q : List PyData → DSt → Prop), Paired GrpIs bl gs → acc.length + gs.length ≤ 14 → (∀ s3, Q (acc ++ ilD (gs.map (·.1))) [.d x, s1, s2, s3, s4, s5, s6]) →
    compD [3] (w_possible_limits_g3 ob) tYesD (w_possible_limits_e3 ob) bl acc [.d x, s1, s2, s3, s4, s5, s6] Q := by
  intro gs
  induction gs with
  | nil =>
    intro bl acc s1 s2 s3 s4 s5 s6 Q h _ q
    cases h
    rw [List.map_nil, show ilD [] = [] from rfl, List.append_nil] at q
    exact q s3
  | cons g gs ih =>
    intro bl acc s1 s2 s3 s4 s5 s6 Q h hl q
    simp only [List.length_cons] at hl
    cases h with
    | cons h1 h2 =>
      rw [ev_compC]
      unfold w_possible_limits_g3 w_possible_limits_e3
      have go := fun s3 => ih _ (acc ++ [.int g.1]) s1 s2 s3 s4 s5 s6 Q h2 (by simp only [List.length_append, List.length_cons, List.length_nil]; omega) (fun s => by
        rw [List.append_assoc]; exact q s)
      rcases h1 with rfl | rfl <;> (
        walk_at "ee"
        exact ⟨by omega, go _⟩)
theorem pl_in (ob : Bool) (x : PyData) (h : Int) (s1 s2 s3 s6 : Sl) : ∀ (ls : List Int) (acc : List Int) (s5 : Sl) (Q : List Int → DSt → Prop), acc.length + ls.length ≤ 4000 → (∀ s5, Q (acc ++ difs1 h ls) [.d x, s1, s2, s3, .d (.int h), s5, s6]) →
    compS [5] (w_possible_limits_h2 ob) tYesD (w_possible_limits_e2 ob) (ilD ls) acc [.d x, s1, s2, s3, .d (.int h), s5, s6] Q := by
  intro ls
  induction ls with
  | nil =>
    intro acc s5 Q _ q
    rw [show difs1 h [] = [] from rfl, List.append_nil] at q
    exact q s5
  | cons l ls ih =>
    intro acc s5 Q hl q
    simp only [List.length_cons] at hl
    rw [show ilD (l :: ls) = .int l :: ilD ls from rfl, ev_y1C]
    unfold w_possible_limits_h2 w_possible_limits_e2
    walk_at "ee"
    refine ⟨h - l, rfl, by unfold PySem.scanBound; omega, ?_⟩
    exact ih (acc ++ [h - l]) _ Q (by simp only [List.length_append, List.length_cons, List.length_nil]; omega) fun s => by
      rw [List.append_assoc]; exact q s
theorem pl_out (ob : Bool) (x : PyData) (ws : List Int) (hw : ws.length ≤ 15) (s2 s3 s6 : Sl) : ∀ (hs : List Int) (acc : List Int) (s4 s5 : Sl) (Q : List Int → DSt → Prop), acc.length + 16 * hs.length ≤ 4000 → (∀ s4 s5, Q (acc ++ difs hs ws) [.d x, .d (.list (ilD ws)), s2, s3, s4, s5, s6]) →
    compS2 [4, 5] [5] (w_possible_limits_g2 ob) tYesD (w_possible_limits_j2 ob) (w_possible_limits_h2 ob) tYesD (w_possible_limits_e2 ob) (ilD hs) acc [.d x, .d (.list (ilD ws)), s2, s3, s4, s5, s6] Q := by
  intro hs
  induction hs with
  | nil =>
    intro acc s4 s5 Q _ q
    rw [show difs [] ws = [] from rfl, List.append_nil] at q
    exact q s4 s5
  | cons h hs ih =>
    intro acc s4 s5 Q hl q
    simp only [List.length_cons] at hl
    rw [show ilD (h :: hs) = .int h :: ilD hs from rfl, ev_z2C]
    unfold w_possible_limits_g2 w_possible_limits_j2
    walk_at "ee"
    refine pl_in ob x h _ _ _ _ ws acc _ _ (by omega) fun s5 => ?_
    walk_at "ee"
    have el : (difs1 h ws).length = ws.length := by unfold difs1; rw [List.length_map]
    exact ih (acc ++ difs1 h ws) _ _ Q (by rw [List.length_append, el]; omega) fun s4 s5 => by
      rw [List.append_assoc]; exact q s4 s5
theorem pl_flt (ob : Bool) (x : PyData) (s1 s2 s3 s4 s5 : Sl) : ∀ (ns : List Int) (acc : List Int) (s6 : Sl) (Q : List PyData → DSt → Prop), acc.length + ns.length ≤ 10000 → (∀ s6, Q (ilD (acc ++ ns.filter fun z => decide (1 < z))) [.d x, s1, s2, s3, s4, s5, s6]) →
    compD [6] (w_possible_limits_g1 ob) (w_possible_limits_t1 ob) (w_possible_limits_e1 ob) (ilD ns) (ilD acc) [.d x, s1, s2, s3, s4, s5, s6] Q := by
  intro ns
  induction ns with
  | nil =>
    intro acc s6 Q _ q
    rw [List.filter_nil, List.append_nil] at q
    exact q s6
  | cons z ns ih =>
    intro acc s6 Q hl q
    simp only [List.length_cons] at hl
    rw [show ilD (z :: ns) = .int z :: ilD ns from rfl, ev_compC]
    unfold w_possible_limits_g1 w_possible_limits_t1 w_possible_limits_e1
    walk_at "ee"
    rw [List.filter_cons] at q
    by_cases c : 1 < z
    · rw [dT c] at q ⊢
      walk_at "ee"
      refine ⟨by unfold ilD; rw [List.length_map]; omega, ?_⟩
      have := ih (acc ++ [z]) (.d (.int z)) Q (by simp only [List.length_append, List.length_cons, List.length_nil]; omega) fun s => by
        rw [List.append_assoc]; exact q s
      unfold ilD at this ⊢
      rw [List.map_append] at this
      exact this
    · rw [dF c] at q ⊢
      walk_at "ee"
      exact ih acc _ Q (by omega) q
theorem difs_len (hs ls : List Int) : (difs hs ls).length = hs.length * ls.length := by
  induction hs with
  | nil => simp [difs]
  | cons h hs ih =>
    unfold difs at ih ⊢
    rw [List.flatMap_cons, List.length_append, ih, List.length_cons, difs1, List.length_map, Nat.succ_mul, Nat.add_comm]
theorem nodup_le : ∀ (a b : List Int), a.Pairwise (· < ·) → (∀ z ∈ a, z ∈ b) → a.length ≤ b.length := by
  intro a
  induction a with
  | nil => intro b _ _; exact Nat.zero_le _
  | cons x a ih =>
    intro b h s
    obtain ⟨h1, h2⟩ := List.pairwise_cons.mp h
    have m := s x List.mem_cons_self
    have := ih (b.erase x) h2 fun z hz => by
      have lt := h1 z hz
      exact (List.mem_erase_of_ne (by omega)).mpr (s z (List.mem_cons_of_mem _ hz))
    rw [List.length_erase_of_mem m] at this
    have pos : 0 < b.length := List.length_pos_of_mem m
    rw [List.length_cons]
    omega
theorem b_possible_limits (ob : Bool) (as : List Ag) (m : Addr) (R : RXc) (Q : Rs → List (List PyData) → Prop) (hl : as.length = 1) (h : S_possible_limits as R Q) : w_possible_limits ob (dEnds as m Q noR) (dStart 7 as m) := by
  obtain ⟨x, lim, gs, rfl, ⟨b, bl, hx, hb, hg⟩, g14, q⟩ := h
  unfold w_possible_limits
  walk_at "ee"
  rw [is_ix hx, show atI [PyData.int lim, b] 1 = some b from rfl]
  walk_at "ee"
  have go := fun s1 s2 s3 s4 s5 s6 Q q => pl_w ob x gs bl [] s1 s2 s3 s4 s5 s6 Q hg (by simp only [List.length_nil]; omega) q
  rcases hb with rfl | rfl <;> (
    walk_at "ee"
    refine go _ _ _ _ _ _ _ fun s => ?_
    rw [List.nil_append]
    walk_at "ee"
    refine ⟨by unfold ilD; rw [List.length_map, List.length_map]; omega, ?_⟩
    have wl : (wts gs).length ≤ 15 := by unfold wts; rw [List.length_cons, List.length_map]; omega
    rw [show (PyData.int 0 :: ilD (gs.map fun x => x.fst)) = ilD (wts gs) from rfl]
    refine pl_out ob x (wts gs) wl _ _ _ (wts gs) [] _ _ _ (by simp only [List.length_nil]; omega) fun s4 s5 => ?_
    rw [List.nil_append]
    walk_at "ee"
    refine ⟨difs (wts gs) (wts gs), rfl, fun ns up mem => ?_⟩
    have nl : ns.length ≤ 225 := by
      have h1 := nodup_le ns _ up fun z hz => (mem z).mp hz
      rw [difs_len] at h1
      have h2 : (wts gs).length * (wts gs).length ≤ 15 * 15 := Nat.mul_le_mul wl wl
      omega
    refine pl_flt ob x _ _ _ _ _ ns [] _ _ (by simp only [List.length_nil]; omega) fun s6 => ?_
    rw [List.nil_append]
    walk_at "ee"
    have fl : (ns.filter fun z => decide (1 < z)).length ≤ ns.length := List.length_filter_le _ _
    refine ⟨by unfold ilD; rw [List.length_map]; omega, ?_⟩
    exact q ns up mem)
/-! ### the smallest limit -/
def upB (gs : List (Int × Int)) (st tt : List Int) (L : Int) : Bool := PyData.isNone (obsF L gs st tt)
def oD : Option Int → PyData
  | none => .none
  | some L => .int L
theorem upB_iff {gs : List (Int × Int)} {st tt : List Int} {L : Int} : upB gs st tt L = true ↔ Up L gs st tt := by
  rw [← obs_nil]
  unfold upB obsF
  cases e : obsL L gs st tt with
  | nil => simp [PyData.isNone]
  | cons o os =>
    have hm : o ∈ obsL L gs st tt := by rw [e]; exact List.mem_cons_self
    unfold obsL at hm
    rw [List.mem_flatMap] at hm
    obtain ⟨k, _, hk⟩ := hm
    unfold obsAt at hk
    refine ⟨fun h => ?_, fun h => by cases h⟩
    split at hk
    · rw [List.mem_singleton] at hk; rw [hk] at h; cases h
    · split at hk
      · rw [List.mem_singleton] at hk; rw [hk] at h; cases h
      · cases hk
/-- the least limit, and where it comes from -/
def MinL (gs : List (Int × Int)) (st tt : List Int) : Option Int → Prop
  | none => ∀ L, 1 ≤ L → ¬ Up L gs st tt
  | some r => 1 ≤ r ∧ Up r gs st tt ∧ (∀ L, 1 ≤ L → L < r → ¬ Up L gs st tt) ∧ (r = 1 ∨ ∃ k : Int, r = wtOf gs k - wtOf gs (k - 1))
theorem MinL.uniq {gs : List (Int × Int)} {st tt : List Int} : ∀ {a b : Option Int}, MinL gs st tt a → MinL gs st tt b → a = b
  | none, none, _, _ => rfl
  | none, some r, h, g => absurd g.2.1 (h r g.1)
  | some r, none, h, g => absurd h.2.1 (g r h.1)
  | some r, some q, h, g => by
    by_cases e : r = q
    · rw [e]
    · rcases Int.lt_or_gt_of_ne e with l | l
      · exact absurd h.2.1 (g.2.2.1 r h.1 l)
      · exact absurd g.2.1 (h.2.2.1 q g.1 l)
theorem find_min (p : Int → Bool) : ∀ ls : List Int, ls.Pairwise (· < ·) → (∀ r, ls.find? p = some r → p r = true ∧ r ∈ ls ∧ ∀ z ∈ ls, z < r → p z = false) ∧ (ls.find? p = none → ∀ z ∈ ls, p z = false) := by
  intro ls
  induction ls with
  | nil => intro _; exact ⟨fun r e => (by cases e), fun _ z h => (by cases h)⟩
  | cons x ls ih =>
    intro h
    obtain ⟨h1, h2⟩ := List.pairwise_cons.mp h
    obtain ⟨i1, i2⟩ := ih h2
    rw [List.find?_cons]
    cases e : p x with
    | true =>
      refine ⟨fun r er => ?_, fun er => by cases er⟩
      cases er
      refine ⟨e, List.mem_cons_self, fun z hz lt => ?_⟩
      rcases List.mem_cons.mp hz with q | q
      · rw [q] at lt; exact absurd lt (by omega)
      · have := h1 z q; omega
    | false =>
      refine ⟨fun r er => ?_, fun er z hz => ?_⟩
      · obtain ⟨a, b, c⟩ := i1 r er
        refine ⟨a, List.mem_cons_of_mem _ b, fun z hz lt => ?_⟩
        rcases List.mem_cons.mp hz with q | q
        · rw [q]; exact e
        · exact c z q lt
      · rcases List.mem_cons.mp hz with q | q
        · rw [q]; exact e
        · exact i2 er z q
theorem up_congr {gs : List (Int × Int)} {st tt : List Int} {L L' : Int} (e : cutB L gs = cutB L' gs) (h : Up L gs st tt) : Up L' gs st tt := by
  unfold Up scRun at h ⊢
  rw [← e]
  exact h
/-- below a limit there is a gap, or 1, with the same cuts -/
theorem up_down {gs : List (Int × Int)} {st tt : List Int} : ∀ (n : Nat) (L : Int), L = n → 1 ≤ L → Up L gs st tt → ∃ r, 1 ≤ r ∧ r ≤ L ∧ Up r gs st tt ∧ (r = 1 ∨ ∃ k : Int, r = wtOf gs k - wtOf gs (k - 1)) := by
  intro n
  induction n with
  | zero => intro L e h _; omega
  | succ n ih =>
    intro L e h0 u
    by_cases c1 : L = 1
    · exact ⟨L, h0, Int.le_refl _, u, .inl c1⟩
    by_cases c2 : ∃ k : Int, L = wtOf gs k - wtOf gs (k - 1)
    · exact ⟨L, h0, Int.le_refl _, u, .inr c2⟩
    · have same : cutB L gs = cutB (L - 1) gs := by
        funext k
        unfold cutB
        have : L ≠ wtOf gs k - wtOf gs (k - 1) := fun e => c2 ⟨k, e⟩
        exact decide_eq_decide.mpr ⟨fun _ => by omega, fun _ => by omega⟩
      obtain ⟨r, r1, r2, r3, r4⟩ := ih (L - 1) (by omega) (by omega) (up_congr same u)
      exact ⟨r, r1, by omega, r3, r4⟩
/-- the first of an ascending list that holds 1 and the gaps -/
theorem minL_find {gs : List (Int × Int)} {st tt : List Int} {ls : List Int} (up : ls.Pairwise (· < ·)) (one : ∀ z ∈ ls, 1 ≤ z) (all : ∀ z : Int, 1 ≤ z → (z = 1 ∨ ∃ k : Int, z = wtOf gs k - wtOf gs (k - 1)) → z ∈ ls) : MinL gs st tt (ls.find? (upB gs st tt)) := by
  obtain ⟨f1, f2⟩ := find_min (upB gs st tt) ls up
  have low : ∀ L, 1 ≤ L → Up L gs st tt → ∃ z ∈ ls, z ≤ L ∧ upB gs st tt z = true ∧ (z = 1 ∨ ∃ k : Int, z = wtOf gs k - wtOf gs (k - 1)) := fun L h u => by
    obtain ⟨r, r1, r2, r3, r4⟩ := up_down L.toNat L (by omega) h u
    exact ⟨r, all r r1 r4, r2, upB_iff.mpr r3, r4⟩
  cases e : ls.find? (upB gs st tt) with
  | none =>
    intro L h u
    obtain ⟨z, hz, _, b, _⟩ := low L h u
    rw [f2 e z hz] at b
    cases b
  | some r =>
    obtain ⟨a, b, c⟩ := f1 r e
    have u := upB_iff.mp a
    refine ⟨one r b, u, fun L h lt uL => ?_, ?_⟩
    · obtain ⟨z, hz, le, b, _⟩ := low L h uL
      rw [c z hz (by omega)] at b
      cases b
    · obtain ⟨z, hz, le, bz, q⟩ := low r (one r b) u
      have : z = r := by
        by_cases l : z < r
        · rw [c z hz l] at bz; cases bz
        · omega
      rw [this] at q
      exact q
theorem wt_mem (gs : List (Int × Int)) (k : Int) : wtOf gs k ∈ wts gs := by
  unfold wtOf wts
  split
  · exact List.mem_cons_self
  · split
    · rename_i g e
      exact List.mem_cons_of_mem _ (List.mem_map.mpr ⟨g, List.mem_of_getElem? e, rfl⟩)
    · exact List.mem_cons_self
theorem gap_mem (gs : List (Int × Int)) (k l : Int) : wtOf gs k - wtOf gs l ∈ difs (wts gs) (wts gs) := by
  unfold difs difs1
  rw [List.mem_flatMap]
  exact ⟨_, wt_mem gs k, List.mem_map.mpr ⟨_, wt_mem gs l, rfl⟩⟩
theorem minL_lims {gs : List (Int × Int)} {st tt : List Int} {ns : List Int} (up : ns.Pairwise (· < ·)) (mem : ∀ k, k ∈ ns ↔ k ∈ difs (wts gs) (wts gs)) : MinL gs st tt ((limsOf ns).find? (upB gs st tt)) := by
  refine minL_find ?_ ?_ ?_
  · unfold limsOf
    refine List.pairwise_cons.mpr ⟨fun z hz => of_decide_eq_true (List.mem_filter.mp hz).2, up.filter _⟩
  · intro z hz
    rcases List.mem_cons.mp hz with q | q
    · omega
    · have : 1 < z := of_decide_eq_true (p := 1 < z) (List.mem_filter.mp q).2
      omega
  · intro z h0 h
    rcases h with h | ⟨k, h⟩
    · rw [h]; exact List.mem_cons_self
    · by_cases e : z = 1
      · rw [e]; exact List.mem_cons_self
      · refine List.mem_cons_of_mem _ (List.mem_filter.mpr ⟨(mem z).mpr (by rw [h]; exact gap_mem gs k (k - 1)), ?_⟩)
        exact decide_eq_true (by omega)
def S_min_limit : DSp := fun as R Q => ∃ (x y z : PyData) (lim : Int) (gs : List (Int × Int)) (st tt : List Int), as = [.d x, .d y, .d z] ∧ WellIs x lim gs ∧ gs.length ≤ 14 ∧ SeqIs y (ilD st) ∧ st.length = gs.length ∧ SeqIs z (ilD tt) ∧ tt.length = gs.length ∧ ∀ r, MinL gs st tt r → Q (.d (oD r)) []
/-- min_limit -/
def w_min_limit_g1 : TGd :=
  (gN 3)
def w_min_limit_b1 : TSd :=
  (sIf (dTest (dCallN 3 S_is_reachable (aCons (aOf (dCallN 2 S_with_limit (aCons (aOf (dVar 0)) (aCons (aOf (dVar 3)) aNil)))) (aCons (aOf (dVar 1)) (aCons (aOf (dVar 2)) aNil))))) (sRet (dVar 3)) sNext)
def w_min_limit : TSd :=
  (sSeq (sFor (iSeq (dCallN 1 S_possible_limits (aCons (aOf (dVar 0)) aNil))) w_min_limit_g1
  w_min_limit_b1)
  (sRet (dC .none)))
theorem ml_loop (x y z : PyData) (lim : Int) (gs : List (Int × Int)) (st tt : List Int) (hx : WellIs x lim gs) (g14 : gs.length ≤ 14) (hy : SeqIs y (ilD st)) (hs : st.length = gs.length) (hz : SeqIs z (ilD tt)) (ht : tt.length = gs.length) (D : DEnds) : ∀ (ls : List Int) (s3 : Sl),
    (ls.find? (upB gs st tt) = none → ∀ s3, D.nx [.d x, .d y, .d z, s3]) → (∀ r, ls.find? (upB gs st tt) = some r → ∀ s3, D.rt (.d (.int r)) [.d x, .d y, .d z, s3]) →
    forD w_min_limit_g1 w_min_limit_b1 D (ilD ls) [.d x, .d y, .d z, s3] := by
  intro ls
  induction ls with
  | nil => intro s3 q _; exact q rfl s3
  | cons L ls ih =>
    intro s3 q1 q2
    rw [show ilD (L :: ls) = .int L :: ilD ls from rfl, ev_forC]
    unfold w_min_limit_g1 w_min_limit_b1
    walk_at "ee"
    refine ⟨x, lim, gs, L, rfl, hx, g14, ?_⟩
    walk_at "ee"
    refine ⟨_, y, z, L, gs, st, tt, rfl, wellD_is L gs, g14, hy, hs, hz, ht, ?_⟩
    walk_at "ee"
    rw [List.find?_cons] at q1 q2
    unfold upB at q1 q2
    cases c : PyData.isNone (obsF L gs st tt) with
    | true =>
      rw [c] at q2
      walk_at "ee"
      exact q2 L rfl _
    | false =>
      rw [c] at q1 q2
      walk_at "ee"
      exact ih _ q1 q2
theorem b_min_limit (as : List Ag) (m : Addr) (R : RXc) (Q : Rs → List (List PyData) → Prop) (hl : as.length = 3) (h : S_min_limit as R Q) : w_min_limit (dEnds as m Q noR) (dStart 4 as m) := by
  obtain ⟨x, y, z, lim, gs, st, tt, rfl, hx, g14, hy, hs, hz, ht, q⟩ := h
  unfold w_min_limit
  walk_at "ee"
  refine ⟨x, lim, gs, rfl, hx, g14, fun ns up mem => ?_⟩
  walk_at "ee"
  have ml := minL_lims (st := st) (tt := tt) up mem
  refine ml_loop x y z lim gs st tt hx g14 hy hs hz ht _ (limsOf ns) _ (fun e s => ?_) (fun r e s => ?_)
  · rw [e] at ml
    walk_at "ee"
    exact q none ml
  · rw [e] at ml
    walk_at "ee"
    exact q (some r) ml
theorem atI_endD (pre : List PyData) (x : PyData) : atI (pre ++ [x]) (-1) = some x := by
  unfold atI ixN
  rw [if_neg (by omega)]
  have e : (-1 : Int) + ((pre ++ [x]).length : Nat) = pre.length := by rw [List.length_append, List.length_singleton]; omega
  rw [e, if_pos (by omega)]
  show (pre ++ [x])[(pre.length : Int).toNat]? = _
  rw [Int.toNat_natCast, List.getElem?_append_right (Nat.le_refl _), Nat.sub_self]
  rfl
/-- the heaviest -/
theorem last_is {gs : List (Int × Int)} (h : 1 ≤ gs.length) (a : Asc 0 gs) : ∃ g : Int × Int, atI (gs.map grpD) (-1) = some (grpD g) ∧ g ∈ gs ∧ 1 ≤ g.1 ∧ ∀ x ∈ gs, x.1 ≤ g.1 := by
  have up : ∀ (pre : List (Int × Int)) (w : Int) (g : Int × Int), Asc w (pre ++ [g]) → w < g.1 ∧ ∀ x ∈ pre ++ [g], x.1 ≤ g.1 := by
    intro pre
    induction pre with
    | nil => intro w g a; exact ⟨a.1, fun x hx => by rw [List.nil_append, List.mem_singleton] at hx; rw [hx]; omega⟩
    | cons y pre ih =>
      intro w g a
      have a1 : w < y.1 := a.1
      obtain ⟨i1, i2⟩ := ih y.1 g a.2
      refine ⟨by omega, fun x hx => ?_⟩
      rw [List.cons_append] at hx
      rcases List.mem_cons.mp hx with q | q
      · rw [q]; omega
      · exact i2 x q
  have ne : gs ≠ [] := fun e => by rw [e] at h; simp at h
  obtain ⟨pre, g, e⟩ : ∃ pre g, gs = pre ++ [g] := ⟨_, _, (List.dropLast_concat_getLast ne).symm⟩
  subst e
  obtain ⟨u1, u2⟩ := up pre 0 g a
  refine ⟨g, ?_, by simp, by omega, u2⟩
  rw [List.map_append]
  exact atI_endD _ _
theorem wt_hi {gs : List (Int × Int)} {h : Int} (h0 : 0 ≤ h) (up : ∀ g ∈ gs, g.1 ≤ h) (k : Int) : wtOf gs k ≤ h := by
  unfold wtOf
  split
  · exact h0
  · split
    · rename_i g e
      exact up g (List.mem_of_getElem? e)
    · exact h0
end LW

namespace LW
open PySem L2 DL
/-! ### a larger limit reaches as much -/
theorem cut_le {L L' : Int} {gs : List (Int × Int)} {k : Int} (h : L ≤ L') (c : cutB L' gs k = true) : cutB L gs k = true := by
  unfold cutB at c ⊢
  have := of_decide_eq_true c
  exact decide_eq_true (by omega)
theorem up_mono {L L' : Int} {gs : List (Int × Int)} {st tt : List Int} (h : L ≤ L') (u : Up L gs st tt) : Up L' gs st tt := by
  have key : ∀ (m : Nat) (k : Int), k + m = gs.length → 0 ≤ k → scRun L' gs tt k - scRun L' gs st k = scRun L gs tt k - scRun L gs st k := by
    intro m
    induction m with
    | zero =>
      intro k e _
      have : k = gs.length := by omega
      rw [this, sc_end, sc_end, sc_end, sc_end]
    | succ m ih =>
      intro k e h0
      have i1 := ih (k + 1) (by omega) (by omega)
      rw [sc_step L' gs tt k (by omega), sc_step L' gs st k (by omega), sc_step L gs tt k (by omega), sc_step L gs st k (by omega)]
      have low : cutB L gs (k + 1) = true → scRun L gs st (k + 1) = scRun L gs tt (k + 1) := fun c => by
        by_cases e2 : k + 1 = gs.length
        · rw [e2, sc_end, sc_end]
        · exact (u (k + 1) (by omega) (by omega)).2 c
      by_cases c' : cutB L' gs (k + 1) = true
      · have c := cut_le h c'
        rw [if_pos c', if_pos c']
        rw [if_pos c, if_pos c]
      · rw [if_neg c', if_neg c']
        by_cases c : cutB L gs (k + 1) = true
        · have := low c
          rw [if_pos c, if_pos c]
          omega
        · rw [if_neg c, if_neg c]
          omega
  intro k h0 h1
  have e := key (gs.length - k).toNat k (by omega) h0
  obtain ⟨u1, u2⟩ := u k h0 h1
  exact ⟨by omega, fun c => by have := u2 (cut_le h c); omega⟩
/-! ### from nobody to everybody -/
def zeros (gs : List (Int × Int)) : List Int := List.replicate gs.length 0
def fullL (gs : List (Int × Int)) : List Int := gs.map (·.2)
theorem zeros_run (L : Int) (gs : List (Int × Int)) : ∀ (m : Nat) (k : Int), k + m = gs.length → 0 ≤ k → scRun L gs (zeros gs) k = 0 := by
  intro m
  induction m with
  | zero => intro k e _; have : k = gs.length := by omega
            rw [this, sc_end]
  | succ m ih =>
    intro k e h0
    have z : stAt (zeros gs) k = 0 := by
      unfold stAt zeros
      rw [List.getElem?_replicate]
      split <;> rfl
    rw [sc_step L gs _ k (by omega), ih (k + 1) (by omega) (by omega), z]
    split <;> rfl
theorem full_run (L : Int) {gs : List (Int × Int)} (sz : ∀ g ∈ gs, 1 ≤ g.2) : ∀ (m : Nat) (k : Int), k + m = gs.length → 0 ≤ k → 0 ≤ scRun L gs (fullL gs) k ∧ (k < gs.length → 1 ≤ scRun L gs (fullL gs) k) := by
  intro m
  induction m with
  | zero => intro k e _; have : k = gs.length := by omega
            rw [this, sc_end]; exact ⟨Int.le_refl _, fun h => by omega⟩
  | succ m ih =>
    intro k e h0
    obtain ⟨i1, _⟩ := ih (k + 1) (by omega) (by omega)
    have f : 1 ≤ stAt (fullL gs) k := by
      unfold stAt fullL
      have lt : k.toNat < gs.length := by omega
      rw [List.getElem?_map, List.getElem?_eq_getElem lt]
      exact sz _ (List.getElem_mem lt)
    rw [sc_step L gs _ k (by omega)]
    split
    · exact ⟨by omega, fun _ => by omega⟩
    · exact ⟨by omega, fun _ => by omega⟩
theorem up_full {L : Int} {gs : List (Int × Int)} (sz : ∀ g ∈ gs, 1 ≤ g.2) : Up L gs (zeros gs) (fullL gs) ↔ ∀ k : Int, 0 ≤ k → k < gs.length → wtOf gs k - wtOf gs (k - 1) ≤ L := by
  constructor
  · intro u k h0 h1
    by_cases c : wtOf gs k - wtOf gs (k - 1) ≤ L
    · exact c
    · have e := (u k h0 h1).2 (by unfold cutB; exact decide_eq_true (by omega))
      rw [zeros_run L gs (gs.length - k).toNat k (by omega) h0] at e
      have := (full_run L sz (gs.length - k).toNat k (by omega) h0).2 h1
      omega
  · intro h k h0 h1
    rw [zeros_run L gs (gs.length - k).toNat k (by omega) h0]
    refine ⟨(full_run L sz (gs.length - k).toNat k (by omega) h0).1, fun c => ?_⟩
    have := of_decide_eq_true c
    have := h k h0 h1
    omega
theorem wt_cons (g : Int × Int) (gs : List (Int × Int)) (k : Int) (h : 0 ≤ k) : wtOf (g :: gs) (k + 1) = wtOf gs k := by
  unfold wtOf
  rw [if_neg (by omega), if_neg (by omega)]
  have : (k + 1).toNat = k.toNat + 1 := by omega
  rw [this, List.getElem?_cons_succ]
theorem gaps_at : ∀ (gs : List (Int × Int)) (w z : Int), z ∈ gapsOf w gs ↔ ∃ k : Int, 0 ≤ k ∧ k < gs.length ∧ z = wtOf gs k - (if k = 0 then w else wtOf gs (k - 1)) := by
  intro gs
  induction gs with
  | nil => intro w z; simp only [gapsOf, List.not_mem_nil, List.length_nil, false_iff]; rintro ⟨k, h0, h1, _⟩; omega
  | cons g gs ih =>
    intro w z
    rw [gapsOf, List.mem_cons, ih]
    have w0 : wtOf (g :: gs) 0 = g.1 := rfl
    constructor
    · rintro (h | ⟨k, h0, h1, e⟩)
      · exact ⟨0, Int.le_refl _, by rw [List.length_cons]; omega, by rw [if_pos rfl, w0]; exact h⟩
      · refine ⟨k + 1, by omega, by rw [List.length_cons]; omega, ?_⟩
        rw [if_neg (by omega), wt_cons g gs k h0, e]
        by_cases c : k = 0
        · rw [if_pos c, c]; rfl
        · rw [if_neg c]
          have := wt_cons g gs (k - 1) (by omega)
          rw [show k - 1 + 1 = k + 1 - 1 by omega] at this
          rw [this]
    · rintro ⟨k, h0, h1, e⟩
      rw [List.length_cons] at h1
      by_cases c : k = 0
      · left
        rw [e, c, if_pos rfl, w0]
      · right
        refine ⟨k - 1, by omega, by omega, ?_⟩
        rw [e, if_neg c]
        have a := wt_cons g gs (k - 1) (by omega)
        rw [show k - 1 + 1 = k by omega] at a
        rw [a]
        by_cases c2 : k - 1 = 0
        · rw [if_pos c2, c2, w0]
        · rw [if_neg c2]
          have b := wt_cons g gs (k - 1 - 1) (by omega)
          rw [show k - 1 - 1 + 1 = k - 1 by omega] at b
          rw [b]
theorem gaps_wt {gs : List (Int × Int)} {z : Int} : z ∈ gapsOf 0 gs ↔ ∃ k : Int, 0 ≤ k ∧ k < gs.length ∧ z = wtOf gs k - wtOf gs (k - 1) := by
  rw [gaps_at]
  constructor
  · rintro ⟨k, h0, h1, e⟩
    refine ⟨k, h0, h1, ?_⟩
    by_cases c : k = 0
    · rw [e, if_pos c, c]; rfl
    · rw [e, if_neg c]
  · rintro ⟨k, h0, h1, e⟩
    refine ⟨k, h0, h1, ?_⟩
    by_cases c : k = 0
    · rw [e, if_pos c, c]; rfl
    · rw [e, if_neg c]
theorem minL_full {lim : Int} {gs : List (Int × Int)} (hw : WellOk lim gs) {m : Int} (mem : m ∈ gapsOf 0 gs) (most : ∀ y ∈ gapsOf 0 gs, y ≤ m) : ∀ {r : Option Int}, MinL gs (zeros gs) (fullL gs) r → r = some m := by
  have sz : ∀ g ∈ gs, 1 ≤ g.2 := fun g h => (hw.sz g h).1
  have m1 := (gaps_rng (Int.le_refl 0) hw.asc (fun g h => (hw.wt g h).2) m mem).1
  have um : Up m gs (zeros gs) (fullL gs) := (up_full sz).mpr fun k h0 h1 => most _ (gaps_wt.mpr ⟨k, h0, h1, rfl⟩)
  intro r h
  match r, h with
  | none, h => exact absurd um (h m m1)
  | some r, h =>
    obtain ⟨r0, r1, r2, _⟩ := h
    have ur := (up_full sz).mp r1
    obtain ⟨k, h0, h1, e⟩ := gaps_wt.mp mem
    have := ur k h0 h1
    by_cases c : r = m
    · rw [c]
    · exact absurd um (r2 m m1 (by omega))
end LW

namespace DL
open PySem L2 RZ
def kExt (i : Nat) (D : DEnds) : Rs → DSt → Prop := fun r δ1 => match r.val, gs δ1 i with
  | .list ys, .o m xs => xs.length + ys.length ≤ 16777216 ∧ D.nx (ss δ1 i (.o m (xs ++ ys)))
  | _, _ => False
theorem ev_sext (i : Nat) (te : TD) (D : DEnds) (δ : DSt) : sExt i te D δ = ((∃ m xs, gs δ i = .o m xs) ∧ te δ D.ex (kExt i D)) := rfl
theorem kExt_ok {i : Nat} {D : DEnds} {r : Rs} {δ : DSt} {ys xs : List PyData} {m : Option Addr} (e1 : r.val = .list ys) (e2 : gs δ i = .o m xs) (h : xs.length + ys.length ≤ 16777216) (q : D.nx (ss δ i (.o m (xs ++ ys)))) : kExt i D r δ := by
  unfold kExt
  rw [e1, e2]
  exact ⟨h, q⟩
end DL
namespace LW
open PySem L2 DL
local macro_rules | `(tactic| walk_at "ee") => `(tactic| simp only [↓asB_b, ↓with1_s, ↓with2_s, ↓asI_s, ↓withL_s, ↓withA_s, ↓putI_s, ↓subI_s, ↓as2I_s, ↓appV_s, ↓isO_o, ↓ev_var, ↓ev_vd, ↓ev_vo, ↓ev_c, ↓ev_avar, ↓ev_ad, ↓ev_ao, ↓ev_kz, ↓ev_of, ↓ev_kof, ↓ev_op, ↓ev_op1, ↓ev_op2, ↓ev_op3, ↓ev_un, ↓ev_un1, ↓ev_un2, ↓ev_test, ↓ev_ktest, ↓ev_and, ↓ev_kandT, ↓ev_kandF, ↓ev_or, ↓ev_korT, ↓ev_korF, ↓ev_not, ↓ev_knot, ↓ev_andV, ↓ev_kandV, ↓ev_kandVT, ↓ev_kandVF, ↓ev_orV, ↓ev_korV, ↓ev_korVT, ↓ev_korVF, ↓ev_notV, ↓ev_knotV, ↓ev_knotV2, ↓ev_ifE, ↓ev_kifET, ↓ev_kifEF, ↓ev_chain, ↓ev_ch1, ↓ev_ch2, ↓ev_ch2b, ↓ev_ch3, ↓ev_ch4T, ↓ev_ch4F, ↓ev_ch5, ↓ev_ch6, ↓ev_nil, ↓ev_cons, ↓ev_kcons, ↓ev_kcons2, ↓ev_lst, ↓ev_klst, ↓ev_tup, ↓ev_ktup, ↓ev_rnil, ↓ev_rcons, ↓ev_krcons, ↓ev_krcons2, ↓ev_anil, ↓ev_acons, ↓ev_kacons, ↓ev_kacons2, ↓ev_pnone, ↓ev_psome, ↓ev_kp, ↓ev_kp2, ↓ev_sl, ↓ev_sl1, ↓ev_sl2, ↓ev_sl3, ↓ev_sl4, ↓ev_slL, ↓ev_slT, ↓ev_cb, ↓ev_kcb, ↓ev_kcb2, ↓ev_isi, ↓ev_kisi, ↓ev_kisi2, ↓ev_call, ↓ev_kcall, ↓ev_callK, ↓ev_kcallK, ↓ev_kq, ↓ev_comp, ↓ev_kcomp, ↓ev_kcompE, ↓ev_compN, ↓ev_compC, ↓ev_kc1, ↓ev_kc2T, ↓ev_kc2F, ↓ev_kc3, ↓ev_yes, ↓ev_gn, ↓ev_gnil, ↓ev_gcons, ↓ev_kg, ↓ev_gtup, ↓ev_seqT, ↓ev_seqL, ↓ev_sub, ↓ev_ksub, ↓ev_iseq, ↓ev_kiseq, ↓ev_seqVL, ↓ev_seqVT, ↓ev_kqd, ↓ev_rg1, ↓ev_krg1, ↓ev_krg1b, ↓ev_rg2, ↓ev_krg2, ↓ev_krg2b, ↓ev_krg2c, ↓ev_en, ↓ev_ken, ↓ev_enL, ↓ev_zp, ↓ev_kzp, ↓ev_kzp2, ↓ev_zpL, ↓ev_zpT, ↓ev_zpLT, ↓ev_zpTL, ↓ev_snext, ↓ev_sseq, ↓ev_knx, ↓nx_set, ↓rt_set, ↓bk_set, ↓ct_set, ↓ex_set, ↓nx_for, ↓rt_for, ↓bk_for, ↓ct_for, ↓ex_for, ↓nx_end, ↓rt_end, ↓ex_end, ↓ev_sbrk, ↓ev_scont, ↓ev_sdrop, ↓ev_kdrop, ↓ev_sret, ↓ev_sretN, ↓ev_sif, ↓ev_kifT, ↓ev_kifF, ↓ev_sset, ↓ev_kset, ↓ev_sasg, ↓ev_kasg, ↓ev_saug, ↓ev_kaug, ↓ev_kaug2, ↓ev_kaug3, ↓ev_sapp, ↓ev_kapp, ↓ev_spar, ↓ev_kpar, ↓ev_sfor, ↓ev_kfori, ↓ev_forN, ↓ev_forC, ↓ev_kfor, ↓o_addI, ↓o_addL, ↓o_addT, ↓o_addS, ↓o_sub, ↓o_iadd, ↓o_mod, ↓o_fdiv, ↓o_pow, ↓o_mulI, ↓o_mulL, ↓o_mulT, ↓o_lt, ↓o_le, ↓o_gt, ↓o_ge, ↓o_isB, ↓o_notB, ↓o_isN, ↓o_notN, ↓n_none, ↓n_int, ↓n_bool, ↓n_str, ↓n_list, ↓n_tup, ↓o_neg, ↓o_rev, ↓ixV_s, ↓o_ixL, ↓o_ixT, ↓c_abs, ↓c_intI, ↓c_intB, ↓c_lenL, ↓c_lenT, ↓c_max2, ↓c_min2, ↓c_listL, ↓c_listT, ↓c_tupL, ↓c_tupT, ↓c_divmod, ↓c_str, ↓c_sum1, ↓c_sumT1, ↓c_max1, ↓c_min1, ↓c_all1, ↓c_any1, ↓g_0, ↓g_s, ↓s_0, ↓s_s, ↓v_un, ↓v_d, ↓v_o, ↓res_x, ↓res_v, ↓val_d, ↓val_f, ↓sl_d, ↓sl_f, ↓ag_d, ↓ag_o, ↓cons?_s, ↓ra_nil, ↓cons2?_s, ↓ra_cons, ↓ag_nil, ↓ag_x, ↓agV_s, ↓ag_v, ↓nr_nil, ↓nr_x, ↓nrV_d, ↓nrV_o, ↓nr_v, ↓vx_nil, ↓vx_x, ↓vx_v, ↓putV_o, ↓pb_0, ↓pb_1, ↓pl_nil, ↓pl_0, ↓pl_1, ↓pl_2, ↓pl_3, ↓rd_0, ↓bx_nil, ↓bx_d, ↓bx_o, ↓rd_o, ↓kd_un, ↓kd_d, ↓sa_nil, ↓sa_cons, ↓wp_nil, ↓wp_cons, ↓rs_nil, ↓rs_cons, ↓ev_lc2, ↓ev_klc2, ↓ev_c2N, ↓ev_c2C, ↓ev_k21, ↓ev_k22T, ↓ev_k22F, ↓ev_k23, ↓ev_k24, ↓c_repr, ↓c_sort, ↓ev_callP, ↓ev_peek, ↓ev_peek2, ↓ev_scal, ↓ev_callF, ↓ev_knew, ↓ev_kdat, ↓c_listS, ↓c_tupS, ↓c_lenS, ↓o_well0, ↓o_well1, ↓seqT_g, ↓o_grp0, ↓o_grp1, ↓seqT_m, ↓o_mv0, ↓o_mv1, ↓o_st, ↓ev_lz, ↓ev_klz, ↓ev_klz2, ↓ev_klz3, ↓ev_tru, ↓ev_ktruB, ↓ev_ktruL, ↓ev_ktruF, ↓ev_nest, ↓ev_knest, Rs.val, Rs.sl, Ag.sl, Opd.res, Sl.val, Sl.keepD, isD_n, isD_b, isD_i, isD_s, isD_l, isD_t, eq_self, eqD_int, neD_int, eqD_ll, neD_ll, eqD_tt, neD_tt, eqD_bb, neD_bb, eqD_ss, neD_ss, atI_0, atI_1, atI_2, atI_3, ixN_1_0, ixN_2_0, ixN_2_1, ixN_3_0, ixN_3_1, ixN_3_2, ixN_4_0, ixN_4_1, ixN_4_2, ixN_4_3, dStart, repUn, tYesD, List.map_cons, List.map_nil, List.cons_append, List.nil_append, List.length_cons, List.length_nil, true_and, and_true, ne_eq, not_false_eq_true, reduceCtorEq, Option.some.injEq, Option.map_none, Option.map_some, Nat.reduceAdd, Nat.reduceSub, Nat.reduceLT, Nat.reduceLeDiff, Nat.zero_lt_succ, Nat.le_refl, Bool.not_true, Bool.not_false, decide_true, decide_false, Int.reduceLE, Int.reduceLT, Int.reduceEq, Int.toNat_zero, Int.reduceToNat, Int.reducePow, Int.reduceNeg, Int.toNat_one, List.set_cons_zero, List.set_cons_succ, List.not_mem_nil, List.mem_cons, false_or, or_false, forall_eq, forall_eq_or_imp, if_true, if_false, ite_true, ite_false, Bool.false_eq_true, forall_const, implies_true, false_implies, ↓ev_enb, ↓ev_kenb, ↓ev_enbL, ↓ev_enbT, ↓ev_pair, ↓ev_sasgp, ↓ev_kasgp, ↓ev_sext])
/-! ### the fewest moves -/
/-- the first n of counted things, and the rest -/
def takeF : List (Int × Int) → Int → List (Int × Int) × List (Int × Int)
  | [], _ => ([], [])
  | p :: r, n => ((if 0 < (if n < p.2 then n else p.2) then [(p.1, if n < p.2 then n else p.2)] else []) ++ (takeF r (n - (if n < p.2 then n else p.2))).1,
      (if (if n < p.2 then n else p.2) < p.2 then [(p.1, p.2 - (if n < p.2 then n else p.2))] else []) ++ (takeF r (n - (if n < p.2 then n else p.2))).2)
theorem takeF_len : ∀ (ps : List (Int × Int)) (n : Int), (takeF ps n).1.length ≤ ps.length ∧ (takeF ps n).2.length ≤ ps.length
  | [], _ => ⟨Nat.le_refl _, Nat.le_refl _⟩
  | p :: r, n => by
    obtain ⟨i1, i2⟩ := takeF_len r (n - (if n < p.2 then n else p.2))
    rw [takeF, List.length_append, List.length_append, List.length_cons]
    generalize (if n < p.2 then n else p.2) = z at i1 i2 ⊢
    have one : ∀ (c : Prop) [Decidable c] (x : Int × Int), (if c then [x] else []).length ≤ 1 := fun c _ x => by split <;> simp
    have o1 := one (0 < z) (p.1, z)
    have o2 := one (z < p.2) (p.1, p.2 - z)
    exact ⟨by omega, by omega⟩
def S_take_first : DSp := fun as R Q => ∃ (ps : List (Int × Int)) (n : Int), as = [.d (.list (ps.map mvD)), .d (.int n)] ∧ ps.length ≤ 1000 ∧ Q (.p ((takeF ps n).1.map mvD) ((takeF ps n).2.map mvD)) []
/-- _take_first -/
def w_take_first_g1 : TGd :=
  (gTupD 2 (gConsD (gN 4) (gConsD (gN 5) gNilD)))
def w_take_first_b1 : TSd :=
  (sSeq (sSet 6 (dCB min2K (aCons (aVar 5) (aCons (aVar 1) aNil))))
  (sSeq (sAug 1 subD (aVar 6))
  (sSeq (sIf (dTest (dOp gtD (aVar 6) (aOf (dC (.int 0))))) (sApp 2 (dTup (dCons (dVar 4) (dCons (dVar 6) dNil)))) sNext)
  (sIf (dTest (dOp ltD (aVar 6) (aVar 5))) (sApp 3 (dTup (dCons (dVar 4) (dCons (dOp subD (aVar 5) (aVar 6)) dNil)))) sNext))))
def w_take_first : TSd :=
  (sSeq (sPar [2, 3] (rCons (dLst dNil) (rCons (dLst dNil) rNil)))
  (sSeq (sFor (iSeq (dVar 0)) w_take_first_g1
  w_take_first_b1)
  (sRet (dPair 2 3))))
theorem tf_loop (s0 : Sl) (D : DEnds) : ∀ (ps : List (Int × Int)) (n : Int) (a b : List (Int × Int)) (s4 s5 s6 : Sl), a.length + ps.length ≤ 2000 → b.length + ps.length ≤ 2000 →
    (∀ n' s4 s5 s6, D.nx [s0, .d (.int n'), .o none ((a ++ (takeF ps n).1).map mvD), .o none ((b ++ (takeF ps n).2).map mvD), s4, s5, s6]) →
    forD w_take_first_g1 w_take_first_b1 D (ps.map mvD) [s0, .d (.int n), .o none (a.map mvD), .o none (b.map mvD), s4, s5, s6] := by
  intro ps
  induction ps with
  | nil => intro n a b s4 s5 s6 _ _ q; simp only [takeF, List.append_nil] at q; exact q n s4 s5 s6
  | cons p ps ih =>
    intro n a b s4 s5 s6 ha hb q
    simp only [List.length_cons] at ha hb
    rw [List.map_cons, ev_forC]
    unfold w_take_first_g1 w_take_first_b1
    walk_at "ee"
    rw [takeF] at q
    generalize (if n < p.2 then n else p.2) = z at q ⊢
    simp only [] at q
    have fin : ∀ (a' b' : List (Int × Int)) (s4 s5 s6 : Sl), a' = a ++ (if 0 < z then [(p.1, z)] else []) → b' = b ++ (if z < p.2 then [(p.1, p.2 - z)] else []) →
        forD w_take_first_g1 w_take_first_b1 D (ps.map mvD) [s0, .d (.int (n - z)), .o none (a'.map mvD), .o none (b'.map mvD), s4, s5, s6] := fun a' b' s4 s5 s6 ea eb => by
      refine ih (n - z) a' b' s4 s5 s6 ?_ ?_ fun n' s4 s5 s6 => ?_
      · rw [ea, List.length_append]; split <;> simp only [List.length_cons, List.length_nil] <;> omega
      · rw [eb, List.length_append]; split <;> simp only [List.length_cons, List.length_nil] <;> omega
      · rw [ea, eb, List.append_assoc, List.append_assoc]
        exact q n' s4 s5 s6
    by_cases c1 : 0 < z
    · rw [dT c1]
      walk_at "ee"
      refine ⟨by rw [List.length_map]; omega, ?_⟩
      by_cases c2 : z < p.2
      · rw [dT c2]
        walk_at "ee"
        refine ⟨by rw [List.length_map]; omega, ?_⟩
        have := fin (a ++ [(p.1, z)]) (b ++ [(p.1, p.2 - z)]) (.d (.int p.1)) (.d (.int p.2)) (.d (.int z)) (by rw [if_pos c1]) (by rw [if_pos c2])
        rw [List.map_append, List.map_append] at this
        exact this
      · rw [dF c2]
        walk_at "ee"
        have := fin (a ++ [(p.1, z)]) b (.d (.int p.1)) (.d (.int p.2)) (.d (.int z)) (by rw [if_pos c1]) (by rw [if_neg c2, List.append_nil])
        rw [List.map_append] at this
        exact this
    · rw [dF c1]
      walk_at "ee"
      by_cases c2 : z < p.2
      · rw [dT c2]
        walk_at "ee"
        refine ⟨by rw [List.length_map]; omega, ?_⟩
        have := fin a (b ++ [(p.1, p.2 - z)]) (.d (.int p.1)) (.d (.int p.2)) (.d (.int z)) (by rw [if_neg c1, List.append_nil]) (by rw [if_pos c2])
        rw [List.map_append] at this
        exact this
      · rw [dF c2]
        walk_at "ee"
        exact fin a b (.d (.int p.1)) (.d (.int p.2)) (.d (.int z)) (by rw [if_neg c1, List.append_nil]) (by rw [if_neg c2, List.append_nil])
theorem b_take_first (as : List Ag) (m : Addr) (R : RXc) (Q : Rs → List (List PyData) → Prop) (hl : as.length = 2) (h : S_take_first as R Q) : w_take_first (dEnds as m Q noR) (dStart 7 as m) := by
  obtain ⟨ps, n, rfl, hp, q⟩ := h
  unfold w_take_first
  walk_at "ee"
  refine tf_loop _ _ ps n [] [] _ _ _ (by simp only [List.length_nil]; omega) (by simp only [List.length_nil]; omega) fun n' s4 s5 s6 => ?_
  rw [List.nil_append, List.nil_append]
  walk_at "ee"
  refine ⟨_, _, by decide, rfl, rfl, ?_⟩
  exact q
def cnts (b : List (Int × Int)) : Int := (b.map (·.2)).sum
def ableOf (lim : Int) (gs : List (Int × Int)) (g : Int) (b : List (Int × Int)) : Int := cnts (b.filter fun p => isMv lim gs g p.1)
def carOf (lim : Int) (gs : List (Int × Int)) (g need : Int) (b : List (Int × Int)) : Int := if ableOf lim gs g b < need then ableOf lim gs g b else need
/-- what ends at g, and what goes on -/
def fewStep (lim : Int) (gs : List (Int × Int)) (g need : Int) (b : List (Int × Int)) : List (Int × Int) × List (Int × Int) :=
  ((takeF b (cnts b - carOf lim gs g need b)).1, (takeF b (cnts b - carOf lim gs g need b)).2 ++ if carOf lim gs g need b < need then [(g - 1, need - carOf lim gs g need b)] else [])
def fewGo (lim : Int) (gs : List (Int × Int)) : Int → List Int → List (Int × Int) → List (Int × Int × Int)
  | _, [], _ => []
  | g, need :: r, b => (fewStep lim gs g need b).1.map (fun p => (g - 1, p.1, p.2)) ++ fewGo lim gs (g + 1) r (fewStep lim gs g need b).2
def fewL (lim : Int) (gs : List (Int × Int)) (st tt : List Int) : List (Int × Int × Int) := fewGo lim gs 0 (crs lim gs st tt ++ [0]) []
theorem step_len (lim : Int) (gs : List (Int × Int)) (g need : Int) (b : List (Int × Int)) : (fewStep lim gs g need b).1.length ≤ b.length ∧ (fewStep lim gs g need b).2.length ≤ b.length + 1 := by
  unfold fewStep
  obtain ⟨a1, a2⟩ := takeF_len b (cnts b - carOf lim gs g need b)
  refine ⟨a1, ?_⟩
  rw [List.length_append]
  split
  · simp only [List.length_cons, List.length_nil]; omega
  · simp only [List.length_nil]; omega
def S_fewest_moves : DSp := fun as R Q => ∃ (x y z : PyData) (lim : Int) (gs : List (Int × Int)) (st tt : List Int), as = [.d x, .d y, .d z] ∧ WellIs x lim gs ∧ gs.length ≤ 14 ∧ SeqIs y (ilD st) ∧ st.length = gs.length ∧ SeqIs z (ilD tt) ∧ tt.length = gs.length ∧ Up lim gs st tt ∧ Q (.d (.list ((fewL lim gs st tt).map jmpD))) []
/-- _fewest_moves -/
def w_fewest_moves_g2 : TGd :=
  (gTupD 2 (gConsD (gN 10) (gConsD (gN 11) gNilD)))
def w_fewest_moves_e2 : TD :=
  (dTup (dCons (dOp subD (aVar 5) (aOf (dC (.int 1)))) (dCons (dVar 10) (dCons (dVar 11) dNil))))
def w_fewest_moves_g3 : TGd :=
  (gN 12)
def w_fewest_moves_e3 : TD :=
  (dOp ixD (aVar 12) (aOf (dC (.int 1))))
def w_fewest_moves_g4 : TGd :=
  (gTupD 2 (gConsD (gN 10) (gConsD (gN 11) gNilD)))
def w_fewest_moves_t4 : TTd :=
  (dTest (dCallN 3 S_is_move (aCons (aOf (dVar 0)) (aCons (aOf (dVar 5)) (aCons (aOf (dVar 10)) aNil)))))
def w_fewest_moves_e4 : TD :=
  (dVar 11)
def w_fewest_moves_g1 : TGd :=
  (gTupD 2 (gConsD (gN 5) (gConsD (gN 6) gNilD)))
def w_fewest_moves_b1 : TSd :=
  (sSeq (sSet 7 (dCB sumK (aCons (aOf (dComp [10, 11] (iSeq (dVar 4)) w_fewest_moves_g4 w_fewest_moves_t4 w_fewest_moves_e4)) aNil)))
  (sSeq (sSet 8 (dCB min2K (aCons (aVar 6) (aCons (aVar 7) aNil))))
  (sSeq (sAsgP 9 4 (dCallN 2 S_take_first (aCons (aOf (dVar 4)) (aCons (aOf (dOp subD (aOf (dCB sumK (aCons (aOf (dComp [12] (iSeq (dVar 4)) w_fewest_moves_g3 tYesD w_fewest_moves_e3)) aNil))) (aVar 8))) aNil))))
  (sSeq (sExt 3 (dComp [10, 11] (iSeq (dVar 9)) w_fewest_moves_g2 tYesD w_fewest_moves_e2))
  (sIf (dTest (dOp gtD (aVar 6) (aVar 8))) (sApp 4 (dTup (dCons (dOp subD (aVar 5) (aOf (dC (.int 1)))) (dCons (dOp subD (aVar 6) (aVar 8)) dNil)))) sNext)))))
def w_fewest_moves : TSd :=
  (sSeq (sSet 3 (dLst dNil))
  (sSeq (sSet 4 (dLst dNil))
  (sSeq (sFor (iEnumB (dOp addD (aOf (dCallN 3 S_crossings (aCons (aOf (dVar 0)) (aCons (aOf (dVar 1)) (aCons (aOf (dVar 2)) aNil))))) (aOf (dTup (dCons (dC (.int 0)) dNil))))) w_fewest_moves_g1
  w_fewest_moves_b1)
  (sRet (dVar 3)))))
theorem fm_able (x : PyData) (lim : Int) (gs : List (Int × Int)) (hx : WellIs x lim gs) (g : Int) (s1 s2 s3 s4 s6 s7 s8 s9 s12 : Sl) (Q : List PyData → DSt → Prop) : ∀ (b : List (Int × Int)) (acc : List Int) (s10 s11 : Sl), acc.length + b.length ≤ 1000 →
    (∀ s10 s11, Q (ilD (acc ++ (b.filter fun p => isMv lim gs g p.1).map (·.2))) [.d x, s1, s2, s3, s4, .d (.int g), s6, s7, s8, s9, s10, s11, s12]) →
    compD [10, 11] w_fewest_moves_g4 w_fewest_moves_t4 w_fewest_moves_e4 (b.map mvD) (ilD acc) [.d x, s1, s2, s3, s4, .d (.int g), s6, s7, s8, s9, s10, s11, s12] Q := by
  intro b
  induction b with
  | nil => intro acc s10 s11 _ q; simp only [List.filter_nil, List.map_nil, List.append_nil] at q; exact q _ _
  | cons p b ih =>
    intro acc s10 s11 hl q
    simp only [List.length_cons] at hl
    rw [List.map_cons, ev_compC]
    unfold w_fewest_moves_g4 w_fewest_moves_t4 w_fewest_moves_e4
    walk_at "ee"
    refine ⟨x, lim, gs, g, p.1, rfl, hx, ?_⟩
    rw [List.filter_cons] at q
    cases c : isMv lim gs g p.1 with
    | true =>
      rw [c] at q
      walk_at "ee"
      refine ⟨by unfold ilD; rw [List.length_map]; omega, ?_⟩
      have := ih (acc ++ [p.2]) (.d (.int p.1)) (.d (.int p.2)) (by simp only [List.length_append, List.length_cons, List.length_nil]; omega) (fun s10 s11 => by
        rw [List.append_assoc]
        exact q s10 s11)
      unfold ilD at this ⊢
      rw [List.map_append] at this
      exact this
    | false =>
      rw [c] at q
      walk_at "ee"
      exact ih acc _ _ (by omega) q
theorem fm_cnt (s0 s1 s2 s3 s4 s5 s6 s7 s8 s9 s10 s11 : Sl) (Q : List PyData → DSt → Prop) : ∀ (b : List (Int × Int)) (acc : List Int) (s12 : Sl), acc.length + b.length ≤ 1000 →
    (∀ s12, Q (ilD (acc ++ b.map (·.2))) [s0, s1, s2, s3, s4, s5, s6, s7, s8, s9, s10, s11, s12]) →
    compD [12] w_fewest_moves_g3 tYesD w_fewest_moves_e3 (b.map mvD) (ilD acc) [s0, s1, s2, s3, s4, s5, s6, s7, s8, s9, s10, s11, s12] Q := by
  intro b
  induction b with
  | nil => intro acc s12 _ q; simp only [List.map_nil, List.append_nil] at q; exact q _
  | cons p b ih =>
    intro acc s12 hl q
    simp only [List.length_cons] at hl
    rw [List.map_cons, ev_compC]
    unfold w_fewest_moves_g3 w_fewest_moves_e3
    rw [show mvD p = .tuple [.int p.1, .int p.2] from rfl]
    walk_at "ee"
    refine ⟨by unfold ilD; rw [List.length_map]; omega, ?_⟩
    have := ih (acc ++ [p.2]) (.d (mvD p)) (by simp only [List.length_append, List.length_cons, List.length_nil]; omega) (fun s12 => by
      rw [List.append_assoc]; exact q s12)
    unfold ilD at this ⊢
    rw [List.map_append] at this
    exact this
theorem fm_out (g : Int) (s0 s1 s2 s3 s4 s6 s7 s8 s9 s12 : Sl) (Q : List PyData → DSt → Prop) : ∀ (b : List (Int × Int)) (acc : List (Int × Int × Int)) (s10 s11 : Sl), acc.length + b.length ≤ 1000 →
    (∀ s10 s11, Q ((acc ++ b.map fun p => (g - 1, p.1, p.2)).map jmpD) [s0, s1, s2, s3, s4, .d (.int g), s6, s7, s8, s9, s10, s11, s12]) →
    compD [10, 11] w_fewest_moves_g2 tYesD w_fewest_moves_e2 (b.map mvD) (acc.map jmpD) [s0, s1, s2, s3, s4, .d (.int g), s6, s7, s8, s9, s10, s11, s12] Q := by
  intro b
  induction b with
  | nil => intro acc s10 s11 _ q; simp only [List.map_nil, List.append_nil] at q; exact q _ _
  | cons p b ih =>
    intro acc s10 s11 hl q
    simp only [List.length_cons] at hl
    rw [List.map_cons, ev_compC]
    unfold w_fewest_moves_g2 w_fewest_moves_e2
    walk_at "ee"
    refine ⟨by rw [List.length_map]; omega, ?_⟩
    have := ih (acc ++ [(g - 1, p.1, p.2)]) (.d (.int p.1)) (.d (.int p.2)) (by simp only [List.length_append, List.length_cons, List.length_nil]; omega) (fun s10 s11 => by
      rw [List.append_assoc]; exact q s10 s11)
    rw [List.map_append] at this
    exact this
theorem fm_loop (x : PyData) (lim : Int) (gs : List (Int × Int)) (hx : WellIs x lim gs) (s1 s2 : Sl) (D : DEnds) : ∀ (needs : List Int) (g : Nat) (b : List (Int × Int)) (cs : List (Int × Int × Int)) (s5 s6 s7 s8 s9 s10 s11 s12 : Sl), b.length ≤ g → cs.length ≤ 20 * g → g + needs.length ≤ 15 →
    (∀ s4 s5 s6 s7 s8 s9 s10 s11 s12, D.nx [.d x, s1, s2, .o none ((cs ++ fewGo lim gs g needs b).map jmpD), s4, s5, s6, s7, s8, s9, s10, s11, s12]) →
    forD w_fewest_moves_g1 w_fewest_moves_b1 D (enumD g (ilD needs)) [.d x, s1, s2, .o none (cs.map jmpD), .o none (b.map mvD), s5, s6, s7, s8, s9, s10, s11, s12] := by
  intro needs
  induction needs with
  | nil => intro g b cs s5 s6 s7 s8 s9 s10 s11 s12 _ _ _ q; rw [fewGo, List.append_nil] at q; exact q _ _ _ _ _ _ _ _ _
  | cons need needs ih =>
    intro g b cs s5 s6 s7 s8 s9 s10 s11 s12 hb hc hg q
    simp only [List.length_cons] at hg
    rw [show enumD g (ilD (need :: needs)) = .tuple [.int (g : Int), .int need] :: enumD (g + 1) (ilD needs) from rfl, ev_forC]
    unfold w_fewest_moves_g1 w_fewest_moves_b1
    walk_at "ee"
    refine fm_able x lim gs hx g _ _ _ _ _ _ _ _ _ _ b [] _ _ (by simp only [List.length_nil]; omega) fun s10 s11 => ?_
    rw [List.nil_append]
    walk_at "ee"
    refine ⟨_, rfl, ?_⟩
    rw [show ((b.filter fun p => isMv lim gs g p.1).map fun p => p.2).sum = ableOf lim gs g b from rfl, show (if ableOf lim gs g b < need then ableOf lim gs g b else need) = carOf lim gs g need b from rfl]
    refine fm_cnt _ _ _ _ _ _ _ _ _ _ _ _ _ b [] _ (by simp only [List.length_nil]; omega) fun s12 => ?_
    rw [List.nil_append]
    walk_at "ee"
    refine ⟨_, rfl, ?_⟩
    rw [show (b.map fun p => p.2).sum = cnts b from rfl]
    refine ⟨b, _, rfl, by omega, ?_⟩
    walk_at "ee"
    obtain ⟨l1, l2⟩ := takeF_len b (cnts b - carOf lim gs g need b)
    refine ⟨by decide, ⟨_, _, rfl⟩, ?_⟩
    refine fm_out g _ _ _ _ _ _ _ _ _ _ _ (takeF b (cnts b - carOf lim gs g need b)).1 [] _ _ (by simp only [List.length_nil]; omega) fun s10 s11 => ?_
    rw [List.nil_append]
    walk_at "ee"
    refine kExt_ok rfl rfl (by simp only [List.length_map]; omega) ?_
    have sl := step_len lim gs g need b
    rw [fewGo] at q
    have fin : ∀ (b' : List (Int × Int)) s5 s6 s7 s8 s9 s10 s11 s12, b' = (fewStep lim gs g need b).2 →
        forD w_fewest_moves_g1 w_fewest_moves_b1 D (enumD (g + 1) (ilD needs)) [.d x, s1, s2, .o none ((cs ++ (takeF b (cnts b - carOf lim gs g need b)).1.map fun p => ((g : Int) - 1, p.1, p.2)).map jmpD), .o none (b'.map mvD), s5, s6, s7, s8, s9, s10, s11, s12] := fun b' s5 s6 s7 s8 s9 s10 s11 s12 eb => by
      subst eb
      refine ih (g + 1) _ _ s5 s6 s7 s8 s9 s10 s11 s12 (by omega) (by rw [List.length_append, List.length_map]; omega) (by omega) fun s4 s5 s6 s7 s8 s9 s10 s11 s12 => ?_
      rw [List.append_assoc, show ((g + 1 : Nat) : Int) = (g : Int) + 1 from rfl]
      exact q s4 s5 s6 s7 s8 s9 s10 s11 s12
    rw [List.map_append] at fin
    walk_at "ee"
    by_cases c : carOf lim gs g need b < need
    · rw [dT c]
      walk_at "ee"
      refine ⟨by rw [List.length_map]; omega, ?_⟩
      have := fin ((takeF b (cnts b - carOf lim gs g need b)).2 ++ [((g : Int) - 1, need - carOf lim gs g need b)])
      rw [List.map_append] at this
      exact this _ _ _ _ _ _ _ _ (by unfold fewStep; rw [if_pos c])
    · rw [dF c]
      walk_at "ee"
      exact fin _ _ _ _ _ _ _ _ _ (by unfold fewStep; rw [if_neg c, List.append_nil])
theorem b_fewest_moves (as : List Ag) (m : Addr) (R : RXc) (Q : Rs → List (List PyData) → Prop) (hl : as.length = 3) (h : S_fewest_moves as R Q) : w_fewest_moves (dEnds as m Q noR) (dStart 13 as m) := by
  obtain ⟨x, y, z, lim, gs, st, tt, rfl, hx, hg, hy, hs, hz, ht, up, q⟩ := h
  unfold w_fewest_moves
  walk_at "ee"
  refine ⟨x, y, z, lim, gs, st, tt, rfl, hx, hg, hy, hs, hz, ht, up, ?_⟩
  unfold stD
  walk_at "ee"
  have cl := crs_len lim gs st tt
  rw [show ilD (crs lim gs st tt) ++ [PyData.int 0] = ilD (crs lim gs st tt ++ [0]) by unfold ilD; rw [List.map_append]; rfl]
  refine ⟨by unfold ilD; rw [List.length_map]; omega, ?_⟩
  refine fm_loop x lim gs hx _ _ _ (crs lim gs st tt ++ [0]) 0 [] [] _ _ _ _ _ _ _ _ (Nat.zero_le _) (Nat.zero_le _) (by rw [List.length_append]; simp only [List.length_cons, List.length_nil]; omega) fun s4 s5 s6 s7 s8 s9 s10 s11 s12 => ?_
  rw [List.nil_append]
  walk_at "ee"
  exact q
def trips (cs : List (Int × Int × Int)) : Int := (cs.map (·.2.2)).sum
def S_total_count : DSp := fun as R Q => ∃ (cs : List (Int × Int × Int)), as = [.d (.list (cs.map jmpD))] ∧ cs.length ≤ 1000 ∧ Q (.d (.int (trips cs))) []
/-- total_count -/
def w_total_count_g1 : TGd :=
  (gN 1)
def w_total_count_e1 : TD :=
  (dOp ixD (aVar 1) (aOf (dC (.int 2))))
def w_total_count : TSd :=
  (sRet (dCB sumK (aCons (aOf (dComp [1] (iSeq (dVar 0)) w_total_count_g1 tYesD w_total_count_e1)) aNil)))
theorem tc_comp (s0 : Sl) (Q : List PyData → DSt → Prop) : ∀ (cs : List (Int × Int × Int)) (acc : List Int) (s1 : Sl), acc.length + cs.length ≤ 1000 →
    (∀ s1, Q (ilD (acc ++ cs.map (·.2.2))) [s0, s1]) → compD [1] w_total_count_g1 tYesD w_total_count_e1 (cs.map jmpD) (ilD acc) [s0, s1] Q := by
  intro cs
  induction cs with
  | nil => intro acc s1 _ q; simp only [List.map_nil, List.append_nil] at q; exact q _
  | cons c cs ih =>
    intro acc s1 hl q
    simp only [List.length_cons] at hl
    rw [List.map_cons, ev_compC]
    unfold w_total_count_g1 w_total_count_e1
    rw [show jmpD c = .tuple [.int c.1, .int c.2.1, .int c.2.2] from rfl]
    walk_at "ee"
    refine ⟨by unfold ilD; rw [List.length_map]; omega, ?_⟩
    have := ih (acc ++ [c.2.2]) (.d (jmpD c)) (by simp only [List.length_append, List.length_cons, List.length_nil]; omega) (fun s1 => by
      rw [List.append_assoc]; exact q s1)
    unfold ilD at this ⊢
    rw [List.map_append] at this
    exact this
theorem b_total_count (as : List Ag) (m : Addr) (R : RXc) (Q : Rs → List (List PyData) → Prop) (hl : as.length = 1) (h : S_total_count as R Q) : w_total_count (dEnds as m Q noR) (dStart 2 as m) := by
  obtain ⟨cs, rfl, hc, q⟩ := h
  unfold w_total_count
  walk_at "ee"
  refine tc_comp _ _ cs [] _ (by simp only [List.length_nil]; omega) fun s1 => ?_
  rw [List.nil_append]
  walk_at "ee"
  exact ⟨_, rfl, q⟩
theorem few_len (lim : Int) (gs : List (Int × Int)) : ∀ (needs : List Int) (g : Int) (b : List (Int × Int)), (fewGo lim gs g needs b).length ≤ needs.length * (b.length + needs.length)
  | [], _, _ => Nat.zero_le _
  | n :: r, g, b => by
    have i := few_len lim gs r (g + 1) (fewStep lim gs g n b).2
    obtain ⟨a1, a2⟩ := step_len lim gs g n b
    rw [fewGo, List.length_append, List.length_map, List.length_cons]
    have m1 : r.length * ((fewStep lim gs g n b).2.length + r.length) ≤ r.length * (b.length + (r.length + 1)) := Nat.mul_le_mul (Nat.le_refl _) (by omega)
    rw [Nat.succ_mul]
    omega
def minMv (lim : Int) (gs : List (Int × Int)) (st tt : List Int) : Int := trips (fewL lim gs st tt)
def S_min_moves : DSp := fun as R Q => ∃ (x y z : PyData) (lim : Int) (gs : List (Int × Int)) (st tt : List Int), as = [.d x, .d y, .d z] ∧ WellIs x lim gs ∧ gs.length ≤ 14 ∧ SeqIs y (ilD st) ∧ st.length = gs.length ∧ SeqIs z (ilD tt) ∧ tt.length = gs.length ∧ Up lim gs st tt ∧ Q (.d (.int (minMv lim gs st tt))) []
/-- min_moves -/
def w_min_moves : TSd :=
  (sRet (dCallN 1 S_total_count (aCons (aOf (dCallN 3 S_fewest_moves (aCons (aOf (dVar 0)) (aCons (aOf (dVar 1)) (aCons (aOf (dVar 2)) aNil))))) aNil)))
theorem b_min_moves (as : List Ag) (m : Addr) (R : RXc) (Q : Rs → List (List PyData) → Prop) (hl : as.length = 3) (h : S_min_moves as R Q) : w_min_moves (dEnds as m Q noR) (dStart 3 as m) := by
  obtain ⟨x, y, z, lim, gs, st, tt, rfl, hx, hg, hy, hs, hz, ht, up, q⟩ := h
  unfold w_min_moves
  walk_at "ee"
  refine ⟨x, y, z, lim, gs, st, tt, rfl, hx, hg, hy, hs, hz, ht, up, ?_⟩
  walk_at "ee"
  have fl := few_len lim gs (crs lim gs st tt ++ [0]) 0 []
  have cl := crs_len lim gs st tt
  rw [List.length_append, cl] at fl
  simp only [List.length_cons, List.length_nil] at fl
  have m1 : (gs.length + (0 + 1)) * (0 + (gs.length + (0 + 1))) ≤ 15 * 15 := Nat.mul_le_mul (by omega) (by omega)
  refine ⟨fewL lim gs st tt, rfl, by unfold fewL; omega, ?_⟩
  walk_at "ee"
  exact q
/-! ### the smallest limit for so many -/
def upFor (gs : List (Int × Int)) (st tt : List Int) (size L : Int) : Bool := upB gs st tt L && decide (minMv L gs st tt ≤ size)
def S_min_limit_for : DSp := fun as R Q => ∃ (x y z : PyData) (lim : Int) (gs : List (Int × Int)) (st tt : List Int) (size : Int), as = [.d x, .d y, .d z, .d (.int size)] ∧ WellIs x lim gs ∧ gs.length ≤ 14 ∧ SeqIs y (ilD st) ∧ st.length = gs.length ∧ SeqIs z (ilD tt) ∧ tt.length = gs.length ∧
  ∀ ns : List Int, ns.Pairwise (· < ·) → (∀ k, k ∈ ns ↔ k ∈ difs (wts gs) (wts gs)) → Q (.d (oD ((limsOf ns).find? (upFor gs st tt size)))) []
/-- min_limit_for -/
def w_min_limit_for_g1 : TGd :=
  (gN 4)
def w_min_limit_for_b1 : TSd :=
  (sSeq (sSet 5 (dCallN 2 S_with_limit (aCons (aOf (dVar 0)) (aCons (aOf (dVar 4)) aNil))))
  (sIf (dAnd (dTest (dCallN 3 S_is_reachable (aCons (aOf (dVar 5)) (aCons (aOf (dVar 1)) (aCons (aOf (dVar 2)) aNil))))) (dTest (dOp leD (aOf (dCallN 3 S_min_moves (aCons (aOf (dVar 5)) (aCons (aOf (dVar 1)) (aCons (aOf (dVar 2)) aNil))))) (aVar 3)))) (sRet (dVar 4)) sNext))
def w_min_limit_for : TSd :=
  (sSeq (sFor (iSeq (dCallN 1 S_possible_limits (aCons (aOf (dVar 0)) aNil))) w_min_limit_for_g1
  w_min_limit_for_b1)
  (sRet (dC .none)))
theorem mf_loop (x y z : PyData) (lim : Int) (gs : List (Int × Int)) (st tt : List Int) (size : Int) (hx : WellIs x lim gs) (g14 : gs.length ≤ 14) (hy : SeqIs y (ilD st)) (hs : st.length = gs.length) (hz : SeqIs z (ilD tt)) (ht : tt.length = gs.length) (D : DEnds) : ∀ (ls : List Int) (s4 s5 : Sl),
    (ls.find? (upFor gs st tt size) = none → ∀ s4 s5, D.nx [.d x, .d y, .d z, .d (.int size), s4, s5]) → (∀ r, ls.find? (upFor gs st tt size) = some r → ∀ s4 s5, D.rt (.d (.int r)) [.d x, .d y, .d z, .d (.int size), s4, s5]) →
    forD w_min_limit_for_g1 w_min_limit_for_b1 D (ilD ls) [.d x, .d y, .d z, .d (.int size), s4, s5] := by
  intro ls
  induction ls with
  | nil => intro s4 s5 q _; exact q rfl s4 s5
  | cons L ls ih =>
    intro s4 s5 q1 q2
    rw [show ilD (L :: ls) = .int L :: ilD ls from rfl, ev_forC]
    unfold w_min_limit_for_g1 w_min_limit_for_b1
    walk_at "ee"
    refine ⟨x, lim, gs, L, rfl, hx, g14, ?_⟩
    walk_at "ee"
    refine ⟨_, y, z, L, gs, st, tt, rfl, wellD_is L gs, g14, hy, hs, hz, ht, ?_⟩
    walk_at "ee"
    rw [List.find?_cons] at q1 q2
    unfold upFor upB at q1 q2
    cases c : PyData.isNone (obsF L gs st tt) with
    | true =>
      rw [c, Bool.true_and] at q1 q2
      walk_at "ee"
      refine ⟨_, y, z, L, gs, st, tt, rfl, wellD_is L gs, g14, hy, hs, hz, ht, upB_iff.mp c, ?_⟩
      walk_at "ee"
      by_cases c2 : minMv L gs st tt ≤ size
      · rw [dT c2] at q2 ⊢
        walk_at "ee"
        exact q2 L rfl _ _
      · rw [dF c2] at q1 q2 ⊢
        walk_at "ee"
        exact ih _ _ q1 q2
    | false =>
      rw [c, Bool.false_and] at q1 q2
      walk_at "ee"
      exact ih _ _ q1 q2
theorem b_min_limit_for (as : List Ag) (m : Addr) (R : RXc) (Q : Rs → List (List PyData) → Prop) (hl : as.length = 4) (h : S_min_limit_for as R Q) : w_min_limit_for (dEnds as m Q noR) (dStart 6 as m) := by
  obtain ⟨x, y, z, lim, gs, st, tt, size, rfl, hx, g14, hy, hs, hz, ht, q⟩ := h
  unfold w_min_limit_for
  walk_at "ee"
  refine ⟨x, lim, gs, rfl, hx, g14, fun ns up mem => ?_⟩
  walk_at "ee"
  have q := q ns up mem
  refine mf_loop x y z lim gs st tt size hx g14 hy hs hz ht _ (limsOf ns) _ _ (fun e s s' => ?_) (fun r e s s' => ?_)
  · rw [e] at q
    walk_at "ee"
    exact q
  · rw [e] at q
    walk_at "ee"
    exact q
end LW

namespace LW
open PySem L2 DL
/-! ### weights times c -/
theorem up_scG {c lim lim' : Int} {gs : List (Int × Int)} {st tt : List Int} (hc : 1 ≤ c) (h1 : c * lim ≤ lim') (h2 : lim' < c * lim + c) : Up lim' (scG c gs) st tt ↔ Up lim gs st tt := by
  unfold Up
  have len : (scG c gs).length = gs.length := by unfold scG; rw [List.length_map]
  rw [len, cut_scG hc h1 h2]
  constructor
  · intro h j h0 h1'
    have := h j h0 h1'
    rw [scRun_scG hc h1 h2, scRun_scG hc h1 h2] at this
    exact this
  · intro h j h0 h1'
    rw [scRun_scG hc h1 h2, scRun_scG hc h1 h2]
    exact h j h0 h1'
theorem fdiv_in {c L : Int} (hc : 1 ≤ c) : c * (L / c) ≤ L ∧ L < c * (L / c) + c := by
  have a := Int.emod_nonneg L (by omega : c ≠ 0)
  have b := Int.emod_lt_of_pos L (by omega : 0 < c)
  have e := Int.mul_ediv_add_emod L c
  exact ⟨by omega, by omega⟩
theorem few_scG {c lim lim' : Int} {gs : List (Int × Int)} (hc : 1 ≤ c) (h1 : c * lim ≤ lim') (h2 : lim' < c * lim + c) : ∀ (needs : List Int) (g : Int) (b : List (Int × Int)), fewGo lim' (scG c gs) g needs b = fewGo lim gs g needs b := by
  have step : ∀ (g need : Int) (b : List (Int × Int)), fewStep lim' (scG c gs) g need b = fewStep lim gs g need b := by
    intro g need b
    unfold fewStep carOf ableOf
    have e : (fun p : Int × Int => isMv lim' (scG c gs) g p.1) = fun p => isMv lim gs g p.1 := by
      funext p
      exact isMv_scG hc h1 h2 g p.1
    rw [e]
  intro needs
  induction needs with
  | nil => intro g b; rfl
  | cons n r ih =>
    intro g b
    rw [fewGo, fewGo, step, ih]
theorem minMv_scG {c lim lim' : Int} {gs : List (Int × Int)} (hc : 1 ≤ c) (h1 : c * lim ≤ lim') (h2 : lim' < c * lim + c) (st tt : List Int) : minMv lim' (scG c gs) st tt = minMv lim gs st tt := by
  unfold minMv fewL
  rw [few_scG hc h1 h2, crs_scG hc h1 h2]
/-- the smallest limit is c times as large, where nothing is reached without a move -/
theorem minL_scG {c : Int} {gs : List (Int × Int)} {st tt : List Int} (hc : 1 ≤ c) (h0 : ¬ Up 0 gs st tt) : ∀ {r : Option Int}, MinL gs st tt r → MinL (scG c gs) st tt (r.map fun z => c * z)
  | none, m => fun L hL u => by
    obtain ⟨a, b⟩ := fdiv_in (L := L) hc
    have u' := (up_scG hc a b).mp u
    have q0 : 0 ≤ L / c := Int.ediv_nonneg (by omega) (by omega)
    by_cases q : L / c = 0
    · rw [q] at u'; exact h0 u'
    · exact m (L / c) (by omega) u'
  | some r, m => by
    obtain ⟨r0, r1, r2, r3⟩ := m
    have gap : ∃ k : Int, r = wtOf gs k - wtOf gs (k - 1) := by
      rcases r3 with e | e
      · by_cases g : ∃ k : Int, r = wtOf gs k - wtOf gs (k - 1)
        · exact g
        · refine absurd (up_congr ?_ r1) h0
          funext k
          unfold cutB
          have : r ≠ wtOf gs k - wtOf gs (k - 1) := fun e => g ⟨k, e⟩
          exact decide_eq_decide.mpr ⟨fun _ => by omega, fun _ => by omega⟩
      · exact e
    have pos : 1 ≤ c * r := by
      have := Int.mul_le_mul hc r0 (by decide) (by omega)
      omega
    refine ⟨pos, (up_scG hc (Int.le_refl _) (by omega)).mpr r1, fun L h1 h2 u => ?_, .inr ?_⟩
    · obtain ⟨a, b⟩ := fdiv_in (L := L) hc
      have u' := (up_scG hc a b).mp u
      have q0 : 0 ≤ L / c := Int.ediv_nonneg (by omega) (by omega)
      by_cases q : L / c = 0
      · rw [q] at u'; exact h0 u'
      · refine r2 (L / c) (by omega) ?_ u'
        exact Int.ediv_lt_of_lt_mul (by omega) (by rw [Int.mul_comm]; exact h2)
    · obtain ⟨k, e⟩ := gap
      exact ⟨k, by rw [wt_scG, wt_scG, ← Int.mul_sub, ← e]⟩
end LW

namespace LW
namespace K16
open PySem L2 DL
/-- three groups of n -/
def g3 (n : Int) : List (Int × Int) := [(2, n), (5, n), (9, n)]
theorem run2 (n L x y z : Int) : scRun L (g3 n) [x, y, z] 2 = z := by
  have := sc_step L (g3 n) [x, y, z] 2 (by simp [g3])
  rw [this, show (2 : Int) + 1 = ((g3 n).length : Nat) from rfl, sc_end]
  show z + _ = z
  split <;> omega
theorem run1 (n L x y z : Int) : scRun L (g3 n) [x, y, z] 1 = y + (if L < 4 then 0 else z) := by
  have c2 : cutB L (g3 n) 2 = decide (L < 4) := rfl
  have := sc_step L (g3 n) [x, y, z] 1 (by simp [g3])
  rw [this, show (1 : Int) + 1 = 2 from rfl, run2, c2]
  show y + _ = _
  by_cases h : L < 4 <;> simp [h]
theorem run0 (n L x y z : Int) : scRun L (g3 n) [x, y, z] 0 = x + (if L < 3 then 0 else y + (if L < 4 then 0 else z)) := by
  have c1 : cutB L (g3 n) 1 = decide (L < 3) := rfl
  have := sc_step L (g3 n) [x, y, z] 0 (by simp [g3])
  rw [this, show (0 : Int) + 1 = 1 from rfl, run1, c1]
  show x + _ = _
  by_cases h : L < 3 <;> simp [h]
theorem up3 (n L a b c a' b' c' : Int) : Up L (g3 n) [a, b, c] [a', b', c'] ↔
    (c ≤ c' ∧ (L < 4 → c = c')) ∧ (b + (if L < 4 then 0 else c) ≤ b' + (if L < 4 then 0 else c') ∧ (L < 3 → b + (if L < 4 then 0 else c) = b' + (if L < 4 then 0 else c'))) ∧
    (a + (if L < 3 then 0 else b + (if L < 4 then 0 else c)) ≤ a' + (if L < 3 then 0 else b' + (if L < 4 then 0 else c')) ∧ (L < 2 → a + (if L < 3 then 0 else b + (if L < 4 then 0 else c)) = a' + (if L < 3 then 0 else b' + (if L < 4 then 0 else c')))) := by
  have c0 : cutB L (g3 n) 0 = decide (L < 2) := rfl
  have c1 : cutB L (g3 n) 1 = decide (L < 3) := rfl
  have c2 : cutB L (g3 n) 2 = decide (L < 4) := rfl
  unfold Up
  constructor
  · intro h
    have h0 := h 0 (by decide) (by simp [g3])
    have h1 := h 1 (by decide) (by simp [g3])
    have h2 := h 2 (by decide) (by simp [g3])
    rw [run0, run0, c0, decide_eq_true_eq] at h0
    rw [run1, run1, c1, decide_eq_true_eq] at h1
    rw [run2, run2, c2, decide_eq_true_eq] at h2
    exact ⟨h2, h1, h0⟩
  · rintro ⟨h2, h1, h0⟩ j j0 j1
    have : j = 0 ∨ j = 1 ∨ j = 2 := by simp [g3] at j1; omega
    rcases this with rfl | rfl | rfl
    · rw [run0, run0, c0, decide_eq_true_eq]; exact h0
    · rw [run1, run1, c1, decide_eq_true_eq]; exact h1
    · rw [run2, run2, c2, decide_eq_true_eq]; exact h2
theorem crs3 (n L a b c a' b' c' : Int) : crs L (g3 n) [a, b, c] [a', b', c'] = [a' + (if L < 3 then 0 else b' + (if L < 4 then 0 else c')) - (a + (if L < 3 then 0 else b + (if L < 4 then 0 else c))), b' + (if L < 4 then 0 else c') - (b + (if L < 4 then 0 else c)), c' - c] := by
  show [scRun L (g3 n) [a', b', c'] 0 - scRun L (g3 n) [a, b, c] 0, scRun L (g3 n) [a', b', c'] 1 - scRun L (g3 n) [a, b, c] 1, scRun L (g3 n) [a', b', c'] 2 - scRun L (g3 n) [a, b, c] 2] = _
  rw [run0, run0, run1, run1, run2, run2]
/-- a least limit of three groups -/
theorem min3 {n : Int} {st tt : List Int} {r k : Int} (h0 : 1 ≤ r) (h1 : Up r (g3 n) st tt) (h2 : ¬ Up (r - 1) (g3 n) st tt) (h3 : r = wtOf (g3 n) k - wtOf (g3 n) (k - 1)) : MinL (g3 n) st tt (some r) :=
  ⟨h0, h1, fun L _ lt u => h2 (up_mono (by omega) u), .inr ⟨k, h3⟩⟩
section
variable {n : Int} (hn : 1 ≤ n)
include hn
theorem m_a : MinL (g3 n) [0, 0, 0] [n, 0, 0] (some 2) := min3 (k := 0) (by decide) (by rw [up3]; simp; omega) (by rw [up3]; simp; omega) rfl
theorem m_b : MinL (g3 n) [0, 0, 0] [0, n, 0] (some 3) := min3 (k := 1) (by decide) (by rw [up3]; simp; omega) (by rw [up3]; simp; omega) rfl
theorem m_c : MinL (g3 n) [0, 0, 0] [0, 0, n] (some 4) := min3 (k := 2) (by decide) (by rw [up3]; simp; omega) (by rw [up3]; simp; omega) rfl
theorem m_d : MinL (g3 n) [0, 0, 0] [n, n, n] (some 4) := min3 (k := 2) (by decide) (by rw [up3]; simp; omega) (by rw [up3]; simp; omega) rfl
theorem m_e : MinL (g3 n) [0, n, 0] [n, 0, 0] none := fun L _ u => by
  rw [up3] at u
  obtain ⟨_, ⟨u, _⟩, _⟩ := u
  simp at u
  omega
theorem m_f : MinL (g3 n) [0, n, 0] [0, 0, n] (some 4) := min3 (k := 2) (by decide) (by rw [up3]; simp; omega) (by rw [up3]; simp; omega) rfl
theorem m_g : MinL (g3 n) [0, n, 0] [0, 0, 0] none := fun L _ u => by
  rw [up3] at u
  obtain ⟨_, ⟨u, _⟩, _⟩ := u
  simp at u
  omega
theorem z_a : ¬ Up 0 (g3 n) [0, 0, 0] [n, 0, 0] := by rw [up3]; simp; omega
theorem z_b : ¬ Up 0 (g3 n) [0, 0, 0] [0, n, 0] := by rw [up3]; simp; omega
theorem z_c : ¬ Up 0 (g3 n) [0, 0, 0] [0, 0, n] := by rw [up3]; simp; omega
theorem z_d : ¬ Up 0 (g3 n) [0, 0, 0] [n, n, n] := by rw [up3]; simp; omega
theorem z_e : ¬ Up 0 (g3 n) [0, n, 0] [n, 0, 0] := by rw [up3]; simp; omega
theorem z_f : ¬ Up 0 (g3 n) [0, n, 0] [0, 0, n] := by rw [up3]; simp; omega
theorem z_g : ¬ Up 0 (g3 n) [0, n, 0] [0, 0, 0] := by rw [up3]; simp; omega
theorem n4 : minMv 4 (g3 n) [0, 0, 0] [0, 0, n] = 3 * n := by
  unfold minMv fewL
  have i0 : isMv 4 (g3 n) 0 (-1) = true := rfl
  have i1 : isMv 4 (g3 n) 1 (-1) = false := rfl
  have i2 : isMv 4 (g3 n) 1 0 = true := rfl
  have i3 : isMv 4 (g3 n) 2 0 = false := rfl
  have i4 : isMv 4 (g3 n) 2 1 = true := rfl
  have i5 : isMv 4 (g3 n) 2 (-1) = false := rfl
  have i6 : ∀ u, isMv 4 (g3 n) 3 u = false := fun u => rfl
  have p1 : 0 < n := by omega
  simp [crs3, fewGo, fewStep, carOf, ableOf, cnts, takeF, trips, i0, i1, i2, i3, i4, i5, i6, p1]
  omega
theorem n5 : minMv 5 (g3 n) [0, 0, 0] [0, 0, n] = 2 * n := by
  unfold minMv fewL
  have i0 : isMv 5 (g3 n) 0 (-1) = true := rfl
  have i1 : isMv 5 (g3 n) 1 (-1) = true := rfl
  have i2 : isMv 5 (g3 n) 1 0 = true := rfl
  have i3 : isMv 5 (g3 n) 2 0 = false := rfl
  have i4 : isMv 5 (g3 n) 2 1 = true := rfl
  have i5 : isMv 5 (g3 n) 2 (-1) = false := rfl
  have i6 : ∀ u, isMv 5 (g3 n) 3 u = false := fun u => rfl
  have p1 : 0 < n := by omega
  simp [crs3, fewGo, fewStep, carOf, ableOf, cnts, takeF, trips, i0, i1, i2, i3, i4, i5, i6, p1]
  omega
theorem n7 : minMv 7 (g3 n) [0, 0, 0] [0, 0, n] = 2 * n := by
  unfold minMv fewL
  have i0 : isMv 7 (g3 n) 0 (-1) = true := rfl
  have i1 : isMv 7 (g3 n) 1 (-1) = true := rfl
  have i2 : isMv 7 (g3 n) 1 0 = true := rfl
  have i3 : isMv 7 (g3 n) 2 0 = true := rfl
  have i4 : isMv 7 (g3 n) 2 1 = true := rfl
  have i5 : isMv 7 (g3 n) 2 (-1) = false := rfl
  have i6 : ∀ u, isMv 7 (g3 n) 3 u = false := fun u => rfl
  have p1 : 0 < n := by omega
  simp [crs3, fewGo, fewStep, carOf, ableOf, cnts, takeF, trips, i0, i1, i2, i3, i4, i5, i6, p1]
  omega
theorem n9 : minMv 9 (g3 n) [0, 0, 0] [0, 0, n] = n := by
  unfold minMv fewL
  have i0 : isMv 9 (g3 n) 0 (-1) = true := rfl
  have i1 : isMv 9 (g3 n) 1 (-1) = true := rfl
  have i2 : isMv 9 (g3 n) 1 0 = true := rfl
  have i3 : isMv 9 (g3 n) 2 0 = true := rfl
  have i4 : isMv 9 (g3 n) 2 1 = true := rfl
  have i5 : isMv 9 (g3 n) 2 (-1) = true := rfl
  have i6 : ∀ u, isMv 9 (g3 n) 3 u = false := fun u => rfl
  have p1 : 0 < n := by omega
  simp [crs3, fewGo, fewStep, carOf, ableOf, cnts, takeF, trips, i0, i1, i2, i3, i4, i5, i6, p1]
theorem n2 : minMv 2 (g3 n) [0, 0, 0] [n, 0, 0] = n := by
  unfold minMv fewL
  have i0 : isMv 2 (g3 n) 0 (-1) = true := rfl
  have i1 : isMv 2 (g3 n) 1 (-1) = false := rfl
  have i2 : isMv 2 (g3 n) 1 0 = false := rfl
  have i3 : isMv 2 (g3 n) 2 0 = false := rfl
  have i4 : isMv 2 (g3 n) 2 1 = false := rfl
  have i5 : isMv 2 (g3 n) 2 (-1) = false := rfl
  have i6 : ∀ u, isMv 2 (g3 n) 3 u = false := fun u => rfl
  have p1 : 0 < n := by omega
  simp [crs3, fewGo, fewStep, carOf, ableOf, cnts, takeF, trips, i0, i1, i2, i3, i4, i5, i6, p1]
end
theorem n0 (n L : Int) : minMv L (g3 n) [0, 0, 0] [0, 0, 0] = 0 := by
  unfold minMv fewL
  simp [crs3, fewGo, fewStep, carOf, ableOf, cnts, takeF, trips]
/-! the limits of the well with weights times t -/
theorem lims_up {ns : List Int} (up : ns.Pairwise (· < ·)) : (limsOf ns).Pairwise (· < ·) := by
  unfold limsOf
  exact List.pairwise_cons.mpr ⟨fun z hz => of_decide_eq_true (List.mem_filter.mp hz).2, up.filter _⟩
theorem find_is {p : Int → Bool} {ls : List Int} (up : ls.Pairwise (· < ·)) {r : Int} (hr : r ∈ ls) (hp : p r = true) (low : ∀ z ∈ ls, z < r → p z = false) : ls.find? p = some r := by
  obtain ⟨f1, f2⟩ := find_min p ls up
  cases e : ls.find? p with
  | none => rw [f2 e r hr] at hp; cases hp
  | some q =>
    obtain ⟨a, b, c⟩ := f1 q e
    by_cases h1 : q < r
    · rw [low q b h1] at a; cases a
    · by_cases h2 : r < q
      · rw [c r hr h2] at hp; cases hp
      · rw [show q = r by omega]
theorem find_no {p : Int → Bool} {ls : List Int} (low : ∀ z ∈ ls, p z = false) : ls.find? p = none := by
  rw [List.find?_eq_none]
  intro z hz
  rw [low z hz]
  exact Bool.false_ne_true
section
variable {t n : Int} (ht : 1 ≤ t) (hn : 1 ≤ n) {ns : List Int} (mem : ∀ k, k ∈ ns ↔ k ∈ difs (wts (scG t (g3 n))) (wts (scG t (g3 n))))
include ht mem
theorem of_lim {z : Int} (h : z ∈ limsOf ns) : z = 1 ∨ ∃ q : Int, z = t * q ∧ (q = 2 ∨ q = 3 ∨ q = 4 ∨ q = 5 ∨ q = 7 ∨ q = 9) := by
  rcases List.mem_cons.mp h with e | h
  · exact .inl e
  · obtain ⟨h1, h2⟩ := List.mem_filter.mp h
    have h2 : 1 < z := of_decide_eq_true h2
    right
    have h3 := (mem z).mp h1
    unfold difs difs1 wts scG g3 at h3
    simp only [List.mem_flatMap, List.mem_map, List.map_cons, List.map_nil, List.mem_cons, List.not_mem_nil, or_false] at h3
    obtain ⟨a, ha, e⟩ := h3
    rcases ha with rfl | rfl | rfl | rfl <;> rcases e with e | e | e | e <;>
      first
        | (exfalso; omega)
        | exact ⟨2, by omega, by decide⟩
        | exact ⟨3, by omega, by decide⟩
        | exact ⟨4, by omega, by decide⟩
        | exact ⟨5, by omega, by decide⟩
        | exact ⟨7, by omega, by decide⟩
        | exact ⟨9, by omega, by decide⟩
theorem is_lim {q k l : Int} (h : wtOf (g3 n) k - wtOf (g3 n) l = q) (h2 : 2 ≤ q) : t * q ∈ limsOf ns := by
  refine List.mem_cons_of_mem _ (List.mem_filter.mpr ⟨(mem _).mpr ?_, ?_⟩)
  · rw [← h, Int.mul_sub, ← wt_scG, ← wt_scG]
    exact gap_mem _ k l
  · have := Int.mul_le_mul ht h2 (by decide) (by omega)
    exact decide_eq_true (by omega)
end
theorem for_at {t n q : Int} (ht : 1 ≤ t) (st tt : List Int) (size : Int) : upFor (scG t (g3 n)) st tt size (t * q) = (upB (g3 n) st tt q && decide (minMv q (g3 n) st tt ≤ size)) := by
  unfold upFor
  rw [minMv_scG ht (Int.le_refl _) (by omega)]
  congr 1
  have := up_scG (gs := g3 n) (st := st) (tt := tt) ht (Int.le_refl (t * q)) (by omega)
  rw [← upB_iff, ← upB_iff] at this
  exact Bool.eq_iff_iff.mpr this
theorem for_1 {t n : Int} (ht : 1 ≤ t) {st tt : List Int} (no : ¬ Up 1 (g3 n) st tt) (size : Int) : upFor (scG t (g3 n)) st tt size 1 = false := by
  have : upB (scG t (g3 n)) st tt 1 = false := by
    cases e : upB (scG t (g3 n)) st tt 1 with
    | false => rfl
    | true =>
      obtain ⟨a, b⟩ := fdiv_in (L := 1) ht
      have u := (up_scG ht a b).mp (upB_iff.mp e)
      exact absurd (up_mono (Int.ediv_le_self _ (by decide)) u) no
  unfold upFor
  rw [this]
  rfl
theorem find_c {t n : Int} (ht : 1 ≤ t) (hn : 1 ≤ n) {ns : List Int} (up : ns.Pairwise (· < ·)) (mem : ∀ k, k ∈ ns ↔ k ∈ difs (wts (scG t (g3 n))) (wts (scG t (g3 n)))) (size : Int) :
    (limsOf ns).find? (upFor (scG t (g3 n)) [0, 0, 0] [0, 0, n] size) = if 3 * n ≤ size then some (t * 4) else if 2 * n ≤ size then some (t * 5) else if n ≤ size then some (t * 9) else none := by
  have m := m_c hn
  have a1 := for_1 (st := [0, 0, 0]) (tt := [0, 0, n]) ht (m.2.2.1 1 (by decide) (by decide)) size
  have u : ∀ q : Int, 4 ≤ q → upB (g3 n) [0, 0, 0] [0, 0, n] q = true := fun q h => upB_iff.mpr (up_mono h m.2.1)
  have lo : ∀ q : Int, 1 ≤ q → q < 4 → upB (g3 n) [0, 0, 0] [0, 0, n] q = false := fun q h1 h2 => by
    cases e : upB (g3 n) [0, 0, 0] [0, 0, n] q with
    | false => rfl
    | true => exact absurd (upB_iff.mp e) (m.2.2.1 q h1 h2)
  have a2 := for_at (q := 2) (n := n) ht [0, 0, 0] [0, 0, n] size
  have a3 := for_at (q := 3) (n := n) ht [0, 0, 0] [0, 0, n] size
  have a4 := for_at (q := 4) (n := n) ht [0, 0, 0] [0, 0, n] size
  have a5 := for_at (q := 5) (n := n) ht [0, 0, 0] [0, 0, n] size
  have a7 := for_at (q := 7) (n := n) ht [0, 0, 0] [0, 0, n] size
  have a9 := for_at (q := 9) (n := n) ht [0, 0, 0] [0, 0, n] size
  rw [lo 2 (by decide) (by decide), Bool.false_and] at a2
  rw [lo 3 (by decide) (by decide), Bool.false_and] at a3
  rw [u 4 (by decide), Bool.true_and, n4 hn] at a4
  rw [u 5 (by decide), Bool.true_and, n5 hn] at a5
  rw [u 7 (by decide), Bool.true_and, n7 hn] at a7
  rw [u 9 (by decide), Bool.true_and, n9 hn] at a9
  by_cases h3 : 3 * n ≤ size
  · rw [if_pos h3]
    rw [decide_eq_true h3] at a4
    refine find_is (lims_up up) (is_lim ht mem (k := 2) (l := 1) rfl (by decide)) a4 fun z hz lt => ?_
    rcases of_lim ht mem hz with e | ⟨q, e, hq⟩
    · rw [e]; exact a1
    · rcases hq with rfl | rfl | rfl | rfl | rfl | rfl
      · rw [e]; exact a2
      · rw [e]; exact a3
      all_goals (exfalso; omega)
  · rw [if_neg h3]
    rw [decide_eq_false h3] at a4
    by_cases h2 : 2 * n ≤ size
    · rw [if_pos h2]
      rw [decide_eq_true h2] at a5
      refine find_is (lims_up up) (is_lim ht mem (k := 1) (l := -1) rfl (by decide)) a5 fun z hz lt => ?_
      rcases of_lim ht mem hz with e | ⟨q, e, hq⟩
      · rw [e]; exact a1
      · rcases hq with rfl | rfl | rfl | rfl | rfl | rfl
        · rw [e]; exact a2
        · rw [e]; exact a3
        · rw [e]; exact a4
        all_goals (exfalso; omega)
    · rw [if_neg h2]
      rw [decide_eq_false h2] at a5 a7
      by_cases h1 : n ≤ size
      · rw [if_pos h1]
        rw [decide_eq_true h1] at a9
        refine find_is (lims_up up) (is_lim ht mem (k := 2) (l := -1) rfl (by decide)) a9 fun z hz lt => ?_
        rcases of_lim ht mem hz with e | ⟨q, e, hq⟩
        · rw [e]; exact a1
        · rcases hq with rfl | rfl | rfl | rfl | rfl | rfl
          · rw [e]; exact a2
          · rw [e]; exact a3
          · rw [e]; exact a4
          · rw [e]; exact a5
          · rw [e]; exact a7
          · exfalso; omega
      · rw [if_neg h1]
        rw [decide_eq_false h1] at a9
        refine find_no fun z hz => ?_
        rcases of_lim ht mem hz with e | ⟨q, e, hq⟩
        · rw [e]; exact a1
        · rcases hq with rfl | rfl | rfl | rfl | rfl | rfl
          · rw [e]; exact a2
          · rw [e]; exact a3
          · rw [e]; exact a4
          · rw [e]; exact a5
          · rw [e]; exact a7
          · rw [e]; exact a9
theorem find_a {t n : Int} (ht : 1 ≤ t) (hn : 1 ≤ n) {ns : List Int} (up : ns.Pairwise (· < ·)) (mem : ∀ k, k ∈ ns ↔ k ∈ difs (wts (scG t (g3 n))) (wts (scG t (g3 n)))) :
    (limsOf ns).find? (upFor (scG t (g3 n)) [0, 0, 0] [n, 0, 0] n) = some (t * 2) := by
  have m := m_a hn
  have a1 := for_1 (st := [0, 0, 0]) (tt := [n, 0, 0]) ht (m.2.2.1 1 (by decide) (by decide)) n
  have a2 := for_at (q := 2) (n := n) ht [0, 0, 0] [n, 0, 0] n
  rw [upB_iff.mpr m.2.1, Bool.true_and, n2 hn, decide_eq_true (Int.le_refl n)] at a2
  refine find_is (lims_up up) (is_lim ht mem (k := 0) (l := -1) rfl (by decide)) a2 fun z hz lt => ?_
  rcases of_lim ht mem hz with e | ⟨q, e, hq⟩
  · rw [e]; exact a1
  · rcases hq with rfl | rfl | rfl | rfl | rfl | rfl
    all_goals (exfalso; omega)
theorem find_z {t n : Int} (ht : 1 ≤ t) {ns : List Int} (up : ns.Pairwise (· < ·)) : (limsOf ns).find? (upFor (scG t (g3 n)) [0, 0, 0] [0, 0, 0] 0) = some 1 := by
  refine find_is (lims_up up) List.mem_cons_self ?_ fun z hz lt => ?_
  · unfold upFor
    obtain ⟨a, b⟩ := fdiv_in (L := 1) ht
    rw [minMv_scG ht a b, n0, upB_iff.mpr (Up.refl _ _ _)]
    rfl
  · have := (List.pairwise_cons.mp (show (1 :: ns.filter fun z => decide (1 < z)).Pairwise (· < ·) from lims_up up)).1
    rcases List.mem_cons.mp hz with e | h
    · omega
    · have := this z h; omega
end K16
end LW

namespace LW
namespace K16
open PySem L2 DL
local macro_rules | `(tactic| walk_at "ee") => `(tactic| simp only [↓asB_b, ↓with1_s, ↓with2_s, ↓asI_s, ↓withL_s, ↓withA_s, ↓putI_s, ↓subI_s, ↓as2I_s, ↓appV_s, ↓isO_o, ↓ev_var, ↓ev_vd, ↓ev_vo, ↓ev_c, ↓ev_avar, ↓ev_ad, ↓ev_ao, ↓ev_kz, ↓ev_of, ↓ev_kof, ↓ev_op, ↓ev_op1, ↓ev_op2, ↓ev_op3, ↓ev_un, ↓ev_un1, ↓ev_un2, ↓ev_test, ↓ev_ktest, ↓ev_and, ↓ev_kandT, ↓ev_kandF, ↓ev_or, ↓ev_korT, ↓ev_korF, ↓ev_not, ↓ev_knot, ↓ev_andV, ↓ev_kandV, ↓ev_kandVT, ↓ev_kandVF, ↓ev_orV, ↓ev_korV, ↓ev_korVT, ↓ev_korVF, ↓ev_notV, ↓ev_knotV, ↓ev_knotV2, ↓ev_ifE, ↓ev_kifET, ↓ev_kifEF, ↓ev_chain, ↓ev_ch1, ↓ev_ch2, ↓ev_ch2b, ↓ev_ch3, ↓ev_ch4T, ↓ev_ch4F, ↓ev_ch5, ↓ev_ch6, ↓ev_nil, ↓ev_cons, ↓ev_kcons, ↓ev_kcons2, ↓ev_lst, ↓ev_klst, ↓ev_tup, ↓ev_ktup, ↓ev_rnil, ↓ev_rcons, ↓ev_krcons, ↓ev_krcons2, ↓ev_anil, ↓ev_acons, ↓ev_kacons, ↓ev_kacons2, ↓ev_pnone, ↓ev_psome, ↓ev_kp, ↓ev_kp2, ↓ev_sl, ↓ev_sl1, ↓ev_sl2, ↓ev_sl3, ↓ev_sl4, ↓ev_slL, ↓ev_slT, ↓ev_cb, ↓ev_kcb, ↓ev_kcb2, ↓ev_isi, ↓ev_kisi, ↓ev_kisi2, ↓ev_call, ↓ev_kcall, ↓ev_callK, ↓ev_kcallK, ↓ev_kq, ↓ev_comp, ↓ev_kcomp, ↓ev_kcompE, ↓ev_compN, ↓ev_compC, ↓ev_kc1, ↓ev_kc2T, ↓ev_kc2F, ↓ev_kc3, ↓ev_yes, ↓ev_gn, ↓ev_gnil, ↓ev_gcons, ↓ev_kg, ↓ev_gtup, ↓ev_seqT, ↓ev_seqL, ↓ev_sub, ↓ev_ksub, ↓ev_iseq, ↓ev_kiseq, ↓ev_seqVL, ↓ev_seqVT, ↓ev_kqd, ↓ev_rg1, ↓ev_krg1, ↓ev_krg1b, ↓ev_rg2, ↓ev_krg2, ↓ev_krg2b, ↓ev_krg2c, ↓ev_en, ↓ev_ken, ↓ev_enL, ↓ev_zp, ↓ev_kzp, ↓ev_kzp2, ↓ev_zpL, ↓ev_zpT, ↓ev_zpLT, ↓ev_zpTL, ↓ev_snext, ↓ev_sseq, ↓ev_knx, ↓nx_set, ↓rt_set, ↓bk_set, ↓ct_set, ↓ex_set, ↓nx_for, ↓rt_for, ↓bk_for, ↓ct_for, ↓ex_for, ↓nx_end, ↓rt_end, ↓ex_end, ↓ev_sbrk, ↓ev_scont, ↓ev_sdrop, ↓ev_kdrop, ↓ev_sret, ↓ev_sretN, ↓ev_sif, ↓ev_kifT, ↓ev_kifF, ↓ev_sset, ↓ev_kset, ↓ev_sasg, ↓ev_kasg, ↓ev_saug, ↓ev_kaug, ↓ev_kaug2, ↓ev_kaug3, ↓ev_sapp, ↓ev_kapp, ↓ev_spar, ↓ev_kpar, ↓ev_sfor, ↓ev_kfori, ↓ev_forN, ↓ev_forC, ↓ev_kfor, ↓o_addI, ↓o_addL, ↓o_addT, ↓o_addS, ↓o_sub, ↓o_iadd, ↓o_mod, ↓o_fdiv, ↓o_pow, ↓o_mulI, ↓o_mulL, ↓o_mulT, ↓o_lt, ↓o_le, ↓o_gt, ↓o_ge, ↓o_isB, ↓o_notB, ↓o_isN, ↓o_notN, ↓n_none, ↓n_int, ↓n_bool, ↓n_str, ↓n_list, ↓n_tup, ↓o_neg, ↓o_rev, ↓ixV_s, ↓o_ixL, ↓o_ixT, ↓c_abs, ↓c_intI, ↓c_intB, ↓c_lenL, ↓c_lenT, ↓c_max2, ↓c_min2, ↓c_listL, ↓c_listT, ↓c_tupL, ↓c_tupT, ↓c_divmod, ↓c_str, ↓c_sum1, ↓c_sumT1, ↓c_max1, ↓c_min1, ↓c_all1, ↓c_any1, ↓g_0, ↓g_s, ↓s_0, ↓s_s, ↓v_un, ↓v_d, ↓v_o, ↓res_x, ↓res_v, ↓val_d, ↓val_f, ↓sl_d, ↓sl_f, ↓ag_d, ↓ag_o, ↓cons?_s, ↓ra_nil, ↓cons2?_s, ↓ra_cons, ↓ag_nil, ↓ag_x, ↓agV_s, ↓ag_v, ↓nr_nil, ↓nr_x, ↓nrV_d, ↓nrV_o, ↓nr_v, ↓vx_nil, ↓vx_x, ↓vx_v, ↓putV_o, ↓pb_0, ↓pb_1, ↓pl_nil, ↓pl_0, ↓pl_1, ↓pl_2, ↓pl_3, ↓rd_0, ↓bx_nil, ↓bx_d, ↓bx_o, ↓rd_o, ↓kd_un, ↓kd_d, ↓sa_nil, ↓sa_cons, ↓wp_nil, ↓wp_cons, ↓rs_nil, ↓rs_cons, ↓ev_lc2, ↓ev_klc2, ↓ev_c2N, ↓ev_c2C, ↓ev_k21, ↓ev_k22T, ↓ev_k22F, ↓ev_k23, ↓ev_k24, ↓c_repr, ↓c_sort, ↓ev_callP, ↓ev_peek, ↓ev_peek2, ↓ev_scal, ↓ev_callF, ↓ev_knew, ↓ev_kdat, ↓c_listS, ↓c_tupS, ↓c_lenS, ↓o_well0, ↓o_well1, ↓seqT_g, ↓o_grp0, ↓o_grp1, ↓seqT_m, ↓o_mv0, ↓o_mv1, ↓o_st, ↓ev_lz, ↓ev_klz, ↓ev_klz2, ↓ev_klz3, ↓ev_tru, ↓ev_ktruB, ↓ev_ktruL, ↓ev_ktruF, ↓ev_nest, ↓ev_knest, Rs.val, Rs.sl, Ag.sl, Opd.res, Sl.val, Sl.keepD, isD_n, isD_b, isD_i, isD_s, isD_l, isD_t, eq_self, eqD_int, neD_int, eqD_ll, neD_ll, eqD_tt, neD_tt, eqD_bb, neD_bb, eqD_ss, neD_ss, atI_0, atI_1, atI_2, atI_3, ixN_1_0, ixN_2_0, ixN_2_1, ixN_3_0, ixN_3_1, ixN_3_2, ixN_4_0, ixN_4_1, ixN_4_2, ixN_4_3, dStart, repUn, tYesD, List.map_cons, List.map_nil, List.cons_append, List.nil_append, List.length_cons, List.length_nil, true_and, and_true, ne_eq, not_false_eq_true, reduceCtorEq, Option.some.injEq, Option.map_none, Option.map_some, Nat.reduceAdd, Nat.reduceSub, Nat.reduceLT, Nat.reduceLeDiff, Nat.zero_lt_succ, Nat.le_refl, Bool.not_true, Bool.not_false, decide_true, decide_false, Int.reduceLE, Int.reduceLT, Int.reduceEq, Int.toNat_zero, Int.reduceToNat, Int.reducePow, Int.reduceNeg, Int.toNat_one, List.set_cons_zero, List.set_cons_succ, List.not_mem_nil, List.mem_cons, false_or, or_false, forall_eq, forall_eq_or_imp, if_true, if_false, ite_true, ite_false, Bool.false_eq_true, forall_const, implies_true, false_implies])
def S_law_known_right : DSp := fun as R Q => ∃ t n : Int, as = [.d (.int t), .d (.int n)] ∧ 1 ≤ t ∧ t ≤ 100000000000 ∧ 1 ≤ n ∧ n ≤ 10000000000000 ∧ Q (.d (.bool true)) []
/-- _law_known_right -/
def w_law_known_right_g1 : TGd :=
  (gTupD 2 (gConsD (gN 7) (gConsD (gN 8) gNilD)))
def w_law_known_right_b1 : TSd :=
  (sIf (dNot (dTest (dCallN 2 S_law_same (aCons (aOf (dCallN 4 S_min_limit_for (aCons (aOf (dVar 3)) (aCons (aOf (dVar 4)) (aCons (aOf (dOp ixD (aVar 5) (aOf (dC (.int 2))))) (aCons (aOf (dVar 7)) aNil)))))) (aCons (aOf (dOp mulD (aVar 8) (aVar 0))) aNil))))) (sRet (dC (.bool false))) sNext)
def w_law_known_right_g2 : TGd :=
  (gN 9)
def w_law_known_right_e2 : TD :=
  (dCallN 3 S_min_limit (aCons (aOf (dVar 3)) (aCons (aOf (dOp ixD (aVar 5) (aOf (dC (.int 1))))) (aCons (aOf (dVar 9)) aNil))))
def w_law_known_right_g3 : TGd :=
  (gN 9)
def w_law_known_right_e3 : TD :=
  (dCallN 3 S_min_limit (aCons (aOf (dVar 3)) (aCons (aOf (dVar 4)) (aCons (aOf (dVar 9)) aNil))))
def w_law_known_right : TSd :=
  (sSeq (sSet 2 (dTup (dCons (dTup (dCons (dOp mulD (aOf (dC (.int 2))) (aVar 0)) (dCons (dVar 1) dNil))) (dCons (dTup (dCons (dOp mulD (aOf (dC (.int 5))) (aVar 0)) (dCons (dVar 1) dNil))) (dCons (dTup (dCons (dOp mulD (aOf (dC (.int 9))) (aVar 0)) (dCons (dVar 1) dNil))) dNil)))))
  (sSeq (sAsg (dTup (dCons (dTup (dCons (dC (.int 1)) (dCons (dVar 2) dNil))) (dCons (dTup (dCons (dC (.int 0)) (dCons (dC (.int 0)) (dCons (dC (.int 0)) dNil)))) dNil))) (gTupD 2 (gConsD (gN 3) (gConsD (gN 4) gNilD))))
  (sSeq (sSet 5 (dLst (dCons (dTup (dCons (dVar 1) (dCons (dC (.int 0)) (dCons (dC (.int 0)) dNil)))) (dCons (dTup (dCons (dC (.int 0)) (dCons (dVar 1) (dCons (dC (.int 0)) dNil)))) (dCons (dTup (dCons (dC (.int 0)) (dCons (dC (.int 0)) (dCons (dVar 1) dNil)))) dNil)))))
  (sSeq (sSet 6 (dComp [9] (iSeq (dOp addD (aVar 5) (aOf (dLst (dCons (dTup (dCons (dVar 1) (dCons (dVar 1) (dCons (dVar 1) dNil)))) dNil))))) w_law_known_right_g3 tYesD w_law_known_right_e3))
  (sSeq (sIf (dNot (dTest (dCallN 2 S_law_same (aCons (aOf (dVar 6)) (aCons (aOf (dLst (dCons (dOp mulD (aOf (dC (.int 2))) (aVar 0)) (dCons (dOp mulD (aOf (dC (.int 3))) (aVar 0)) (dCons (dOp mulD (aOf (dC (.int 4))) (aVar 0)) (dCons (dOp mulD (aOf (dC (.int 4))) (aVar 0)) dNil)))))) aNil))))) (sRet (dC (.bool false))) sNext)
  (sSeq (sSet 6 (dComp [9] (iSeq (dTup (dCons (dOp ixD (aVar 5) (aOf (dC (.int 0)))) (dCons (dOp ixD (aVar 5) (aOf (dC (.int 2)))) (dCons (dVar 4) (dCons (dOp ixD (aVar 5) (aOf (dC (.int 1)))) dNil)))))) w_law_known_right_g2 tYesD w_law_known_right_e2))
  (sSeq (sIf (dNot (dTest (dCallN 2 S_law_same (aCons (aOf (dVar 6)) (aCons (aOf (dLst (dCons (dC .none) (dCons (dOp mulD (aOf (dC (.int 4))) (aVar 0)) (dCons (dC .none) (dCons (dC (.int 1)) dNil)))))) aNil))))) (sRet (dC (.bool false))) sNext)
  (sSeq (sFor (iSeq (dTup (dCons (dTup (dCons (dOp mulD (aOf (dC (.int 3))) (aVar 1)) (dCons (dC (.int 4)) dNil))) (dCons (dTup (dCons (dOp mulD (aOf (dC (.int 2))) (aVar 1)) (dCons (dC (.int 5)) dNil))) (dCons (dTup (dCons (dOp subD (aOf (dOp mulD (aOf (dC (.int 3))) (aVar 1))) (aOf (dC (.int 1)))) (dCons (dC (.int 5)) dNil))) (dCons (dTup (dCons (dOp subD (aOf (dOp mulD (aOf (dC (.int 2))) (aVar 1))) (aOf (dC (.int 1)))) (dCons (dC (.int 9)) dNil))) (dCons (dTup (dCons (dVar 1) (dCons (dC (.int 9)) dNil))) dNil))))))) w_law_known_right_g1
  w_law_known_right_b1)
  (sSeq (sSet 6 (dLst (dCons (dCallN 4 S_min_limit_for (aCons (aOf (dVar 3)) (aCons (aOf (dVar 4)) (aCons (aOf (dOp ixD (aVar 5) (aOf (dC (.int 2))))) (aCons (aOf (dOp subD (aVar 1) (aOf (dC (.int 1))))) aNil))))) (dCons (dCallN 4 S_min_limit_for (aCons (aOf (dVar 3)) (aCons (aOf (dVar 4)) (aCons (aOf (dOp ixD (aVar 5) (aOf (dC (.int 0))))) (aCons (aOf (dVar 1)) aNil))))) dNil))))
  (sRet (dCallN 2 S_law_same (aCons (aOf (dOp addD (aVar 6) (aOf (dLst (dCons (dCallN 4 S_min_limit_for (aCons (aOf (dVar 3)) (aCons (aOf (dVar 4)) (aCons (aOf (dVar 4)) (aCons (aOf (dC (.int 0))) aNil))))) dNil))))) (aCons (aOf (dLst (dCons (dC .none) (dCons (dOp mulD (aOf (dC (.int 2))) (aVar 0)) (dCons (dC (.int 1)) dNil))))) aNil)))))))))))))
theorem kr_turn (t n : Int) (t0 : 1 ≤ t) (t1 : t ≤ 100000000000) (n1 : 1 ≤ n) (w : PyData) (W : WellIs w 1 (scG t (g3 n))) (s2 s6 s9 : Sl) (D : DEnds) (sz wide : Int) (w0 : 0 ≤ wide) (w1 : wide < 100) (rest : List PyData)
    (e : (if 3 * n ≤ sz then some (t * 4) else if 2 * n ≤ sz then some (t * 5) else if n ≤ sz then some (t * 9) else none) = some (t * wide)) (s7 s8 : Sl)
    (q : ∀ s7 s8, forD w_law_known_right_g1 w_law_known_right_b1 D rest [.d (.int t), .d (.int n), s2, .d w, .d (.tuple [.int 0, .int 0, .int 0]), .o none [.tuple [.int n, .int 0, .int 0], .tuple [.int 0, .int n, .int 0], .tuple [.int 0, .int 0, .int n]], s6, s7, s8, s9]) :
    forD w_law_known_right_g1 w_law_known_right_b1 D (.tuple [.int sz, .int wide] :: rest) [.d (.int t), .d (.int n), s2, .d w, .d (.tuple [.int 0, .int 0, .int 0]), .o none [.tuple [.int n, .int 0, .int 0], .tuple [.int 0, .int n, .int 0], .tuple [.int 0, .int 0, .int n]], s6, s7, s8, s9] := by
  rw [ev_forC]
  unfold w_law_known_right_g1 w_law_known_right_b1
  walk_at "ee"
  refine ⟨_, _, _, 1, _, [0, 0, 0], [0, 0, n], sz, rfl, W, (by show 3 ≤ 14; decide), .inl rfl, rfl, .inl rfl, rfl, fun ns up mem => ?_⟩
  rw [find_c t0 n1 up mem, e]
  walk_at "ee"
  refine ⟨mul100 (by omega) (by omega) (by omega) (by omega), ?_⟩
  rw [show oD (some (t * wide)) = .int (wide * t) by rw [oD, Int.mul_comm]]
  refine ⟨_, rfl, by simp [PyData.depth], rfl, ?_⟩
  walk_at "ee"
  exact q _ _
theorem b_law_known_right (as : List Ag) (m : Addr) (R : RXc) (Q : Rs → List (List PyData) → Prop) (hl : as.length = 2) (h : S_law_known_right as R Q) : w_law_known_right (dEnds as m Q noR) (dStart 10 as m) := by
  obtain ⟨t, n, rfl, t0, t1, n0', n1, q⟩ := h
  have m5 : ∀ a b : Int, 0 ≤ a → a < 100 → 1 ≤ b → b ≤ 10000000000000 → CMulX a b := fun a b h1 h2 h3 h4 => mul100 (by omega) (by omega) (by omega) (by omega)
  unfold w_law_known_right w_law_known_right_g3 w_law_known_right_e3 w_law_known_right_g2 w_law_known_right_e2
  walk_at "ee"
  refine ⟨m5 _ _ (by decide) (by decide) t0 (by omega), m5 _ _ (by decide) (by decide) t0 (by omega), m5 _ _ (by decide) (by decide) t0 (by omega), ?_⟩
  obtain ⟨gs, eg⟩ : ∃ gs, gs = scG t (g3 n) := ⟨_, rfl⟩
  have W : WellIs (.tuple [.int 1, .tuple [.tuple [.int (2 * t), .int n], .tuple [.int (5 * t), .int n], .tuple [.int (9 * t), .int n]]]) 1 gs := by
    have : PyData.tuple [.int 1, .tuple [.tuple [.int (2 * t), .int n], .tuple [.int (5 * t), .int n], .tuple [.int (9 * t), .int n]]] = wellD 1 gs := by
      rw [eg, Int.mul_comm 2 t, Int.mul_comm 5 t, Int.mul_comm 9 t]
      rfl
    rw [this]
    exact wellD_is 1 gs
  have gl : gs.length = 3 := by rw [eg]; rfl
  have g14 : gs.length ≤ 14 := by omega
  have same : ∀ {st tt : List Int} {r r' : Option Int}, ¬ Up 0 (g3 n) st tt → MinL (g3 n) st tt r → MinL gs st tt r' → oD r' = oD (r.map fun z => t * z) := fun h0 hm h => by
    rw [eg] at h
    rw [h.uniq (minL_scG t0 h0 hm)]
  have same1 : ∀ {r' : Option Int}, MinL gs [0, n, 0] [0, n, 0] r' → oD r' = .int 1 := fun h => by
    rw [h.uniq (b := some 1) ⟨by decide, Up.refl _ _ _, fun L h0 h1 => by omega, .inl rfl⟩]
    rfl
  refine ⟨_, _, _, 1, gs, [0, 0, 0], [n, 0, 0], rfl, W, g14, .inl rfl, gl.symm, .inl rfl, gl.symm, fun r ml => ?_⟩
  rw [same (z_a n0') (m_a n0') ml]
  walk_at "ee"
  refine ⟨_, _, _, 1, gs, [0, 0, 0], [0, n, 0], rfl, W, g14, .inl rfl, gl.symm, .inl rfl, gl.symm, fun r ml => ?_⟩
  rw [same (z_b n0') (m_b n0') ml]
  walk_at "ee"
  refine ⟨_, _, _, 1, gs, [0, 0, 0], [0, 0, n], rfl, W, g14, .inl rfl, gl.symm, .inl rfl, gl.symm, fun r ml => ?_⟩
  rw [same (z_c n0') (m_c n0') ml]
  walk_at "ee"
  refine ⟨_, _, _, 1, gs, [0, 0, 0], [n, n, n], rfl, W, g14, .inl rfl, gl.symm, .inl rfl, gl.symm, fun r ml => ?_⟩
  rw [same (z_d n0') (m_d n0') ml]
  walk_at "ee"
  have oS : ∀ k : Int, oD (some (t * k)) = .int (k * t) := fun k => by rw [oD, Int.mul_comm]
  have mt : ∀ k : Int, 0 ≤ k → k < 100 → CMulX k t := fun k h1 h2 => m5 k t h1 h2 t0 (by omega)
  refine ⟨mt _ (by decide) (by decide), mt _ (by decide) (by decide), mt _ (by decide) (by decide), mt _ (by decide) (by decide), ?_⟩
  simp only [oS]
  refine ⟨_, rfl, by simp [PyData.depth, PyData.depthAll], rfl, ?_⟩
  walk_at "ee"
  refine ⟨_, _, _, 1, gs, [0, n, 0], [n, 0, 0], rfl, W, g14, .inl rfl, gl.symm, .inl rfl, gl.symm, fun r ml => ?_⟩
  rw [same (z_e n0') (m_e n0') ml]
  walk_at "ee"
  refine ⟨_, _, _, 1, gs, [0, n, 0], [0, 0, n], rfl, W, g14, .inl rfl, gl.symm, .inl rfl, gl.symm, fun r ml => ?_⟩
  rw [same (z_f n0') (m_f n0') ml]
  walk_at "ee"
  refine ⟨_, _, _, 1, gs, [0, n, 0], [0, 0, 0], rfl, W, g14, .inl rfl, gl.symm, .inl rfl, gl.symm, fun r ml => ?_⟩
  rw [same (z_g n0') (m_g n0') ml]
  walk_at "ee"
  refine ⟨_, _, _, 1, gs, [0, n, 0], [0, n, 0], rfl, W, g14, .inl rfl, gl.symm, .inl rfl, gl.symm, fun r ml => ?_⟩
  rw [same1 ml]
  walk_at "ee"
  refine ⟨mt _ (by decide) (by decide), ?_⟩
  simp only [oS, show oD (Option.map (fun z => t * z) none) = .none from rfl, show oD none = .none from rfl]
  refine ⟨_, rfl, by simp [PyData.depth, PyData.depthAll], rfl, ?_⟩
  walk_at "ee"
  have mn : ∀ k : Int, 0 ≤ k → k < 100 → CMulX k n := fun k h1 h2 => m5 k n h1 h2 n0' n1
  refine ⟨mn _ (by decide) (by decide), mn _ (by decide) (by decide), mn _ (by decide) (by decide), mn _ (by decide) (by decide), ?_⟩
  show forD w_law_known_right_g1 w_law_known_right_b1 _ [.tuple [.int (3 * n), .int 4], .tuple [.int (2 * n), .int 5], .tuple [.int (3 * n - 1), .int 5], .tuple [.int (2 * n - 1), .int 9], .tuple [.int n, .int 9]] _
  have W' := W
  rw [eg] at W'
  refine kr_turn t n t0 t1 n0' _ W' _ _ _ _ (3 * n) 4 (by decide) (by decide) _ (by rw [if_pos (Int.le_refl _)]) _ _ fun s7 s8 => ?_
  refine kr_turn t n t0 t1 n0' _ W' _ _ _ _ (2 * n) 5 (by decide) (by decide) _ (by rw [if_neg (by omega), if_pos (Int.le_refl _)]) _ _ fun s7 s8 => ?_
  refine kr_turn t n t0 t1 n0' _ W' _ _ _ _ (3 * n - 1) 5 (by decide) (by decide) _ (by rw [if_neg (by omega), if_pos (by omega)]) _ _ fun s7 s8 => ?_
  refine kr_turn t n t0 t1 n0' _ W' _ _ _ _ (2 * n - 1) 9 (by decide) (by decide) _ (by rw [if_neg (by omega), if_neg (by omega), if_pos (by omega)]) _ _ fun s7 s8 => ?_
  refine kr_turn t n t0 t1 n0' _ W' _ _ _ _ n 9 (by decide) (by decide) _ (by rw [if_neg (by omega), if_neg (by omega), if_pos (by omega)]) _ _ fun s7 s8 => ?_
  walk_at "ee"
  refine ⟨_, _, _, 1, gs, [0, 0, 0], [0, 0, n], n - 1, rfl, W, g14, .inl rfl, gl.symm, .inl rfl, gl.symm, fun ns up mem => ?_⟩
  rw [eg] at mem ⊢
  rw [find_c t0 n0' up mem, if_neg (by omega), if_neg (by omega), if_neg (by omega)]
  walk_at "ee"
  refine ⟨_, _, _, 1, _, [0, 0, 0], [n, 0, 0], n, rfl, W', (by show 3 ≤ 14; decide), .inl rfl, rfl, .inl rfl, rfl, fun ns up mem => ?_⟩
  rw [find_a t0 n0' up mem]
  walk_at "ee"
  refine ⟨_, _, _, 1, _, [0, 0, 0], [0, 0, 0], 0, rfl, W', (by show 3 ≤ 14; decide), .inl rfl, rfl, .inl rfl, rfl, fun ns up mem => ?_⟩
  rw [find_z t0 up]
  walk_at "ee"
  refine ⟨mt _ (by decide) (by decide), ?_⟩
  simp only [oS, show oD (some 1) = .int 1 from rfl, show oD none = .none from rfl]
  refine ⟨_, rfl, by simp [PyData.depth, PyData.depthAll], rfl, ?_⟩
  walk_at "ee"
  exact q
def S_law : DSp := fun as R Q => ∃ (ns : List Int) (M : Nat), as = [.d (.list (ilD ns))] ∧ ns.length ≤ 63 ∧ (∀ z ∈ ns, z.natAbs ≤ M) ∧ M * 5000 < 2 ^ bigE ∧ Q (.d (.bool true)) []
/-- law -/
def w_law_g1 : TGd :=
  (gN 2)
def w_law_b1 : TSd :=
  (sSeq (sSet 3 (dCallN 2 S_law_stream (aCons (aOf (dVar 1)) (aCons (aOf (dVar 2)) aNil))))
  (sSeq (sPar [4, 5] (rCons (dOp addD (aOf (dC (.int 1))) (aOf (dCallN 2 S_law_draw (aCons (aVar 3) (aCons (aOf (dOp powD (aOf (dC (.int 10))) (aOf (dC (.int 10))))) aNil))))) (rCons (dOp addD (aOf (dC (.int 1))) (aOf (dCallN 2 S_law_draw (aCons (aVar 3) (aCons (aOf (dCallN 2 S_law_pick (aCons (aVar 3) (aCons (aOf (dLst (dCons (dC (.int 2)) (dCons (dOp powD (aOf (dC (.int 10))) (aOf (dC (.int 12)))) dNil)))) aNil)))) aNil))))) rNil)))
  (sIf (dNot (dTest (dCallN 2 S_law_known_right (aCons (aOf (dVar 4)) (aCons (aOf (dVar 5)) aNil))))) (sRet (dC (.bool false))) sNext)))
def w_law : TSd :=
  (sSeq (sSet 1 (dCallN 2 S_law_fold (aCons (aOf (dVar 0)) (aCons (aOf (dC (.int 4))) aNil))))
  (sSeq (sFor (iRange1 (aOf (dCB max2K (aCons (aOf (dC (.int 1))) (aCons (aOf (dCB lenK (aCons (aVar 1) aNil))) aNil))))) w_law_g1
  w_law_b1)
  (sRet (dC (.bool true)))))
theorem law_loop (a : PyData) (cs : List Int) (hc : ∀ z ∈ cs, z.natAbs < 2 ^ bigE) (D : DEnds) : ∀ (n : Nat) (lo : Int) (s1 s2 s3 s4 s5 : Sl), 0 ≤ lo → lo + n ≤ 100 → (s1 = .o none (ilD cs) ∨ s1 = .d (.list (ilD cs))) →
    (∀ s1 s2 s3 s4 s5, D.nx [.d a, s1, s2, s3, s4, s5]) → forD w_law_g1 w_law_b1 D (rangeD lo n) [.d a, s1, s2, s3, s4, s5] := by
  intro n
  induction n with
  | zero => intro lo s1 s2 s3 s4 s5 _ _ _ q; exact q _ _ _ _ _
  | succ n ih =>
    intro lo s1 s2 s3 s4 s5 h0 h1 e q
    rw [rangeD, ev_forC]
    unfold w_law_g1 w_law_b1
    rcases e with rfl | rfl <;> (
      walk_at "ee"
      refine ⟨cs, lo, rfl, h0, by omega, hc, fun xs hr => ?_⟩
      walk_at "ee"
      refine ⟨cpow_ok (by decide), ?_⟩
      refine ⟨xs, _, 10000000000, rfl, hr, by decide, by decide, by decide, fun z ys z0 z1 hr1 => ?_⟩
      walk_at "ee"
      refine ⟨cpow_ok (by decide), ?_⟩
      refine ⟨ys, _, _, rfl, hr1, by decide, by simp, by simp, fun d ys2 hd hr2 => ?_⟩
      have hd' : ∃ cr : Int, d = .int cr ∧ 1 ≤ cr ∧ cr ≤ 1000000000000 := by
        simp only [List.mem_cons, List.not_mem_nil, or_false] at hd
        rcases hd with rfl | rfl
        · exact ⟨2, rfl, by decide, by decide⟩
        · exact ⟨1000000000000, rfl, by decide, by decide⟩
      obtain ⟨cr, rfl, cr0, cr1⟩ := hd'
      walk_at "ee"
      refine ⟨ys2, _, cr, rfl, hr2, by decide, cr0, by omega, fun z2 ys3 z20 z21 hr3 => ?_⟩
      walk_at "ee"
      refine ⟨1 + z, 1 + z2, rfl, by omega, by omega, by omega, by omega, ?_⟩
      walk_at "ee"
      exact ih (lo + 1) _ _ _ _ _ (by omega) (by omega) (.inr rfl) q)
theorem b_law (as : List Ag) (m : Addr) (R : RXc) (Q : Rs → List (List PyData) → Prop) (hl : as.length = 1) (h : S_law as R Q) : w_law (dEnds as m Q noR) (dStart 6 as m) := by
  obtain ⟨ns, M, rfl, hn, hM, hb, q⟩ := h
  unfold w_law
  walk_at "ee"
  refine ⟨ns, 4, M, rfl, hn, by decide, by decide, hM, hb, fun cs c1 c2 c3 => ?_⟩
  walk_at "ee"
  have el : (ilD cs).length = cs.length := by unfold ilD; rw [List.length_map]
  rw [el]
  refine ⟨by unfold okRg; split <;> omega, ?_⟩
  refine law_loop _ cs c3 _ _ 0 _ _ _ _ _ (by decide) (by split <;> omega) (.inr rfl) (fun s1 s2 s3 s4 s5 => ?_)
  walk_at "ee"
  exact q
end K16
end LW

namespace LW
namespace K16
open PySem L2 DL RZ
def topS (i : Nat) : Stmt := PySem.Challenge.pw_wellfolk_k16_limits_example.main.body.getD i (.Pass ⟨0, 0, 0, 0⟩)
/-- _law_same(_law_found, _law_wanted) -/
abbrev s_law_same : Stmt := topS 32
abbrev N_law_same : List Str := ["_law_found", "_law_wanted", "_law_mine", "_law_its"]
abbrev p_law_same : List Str := ["_law_found", "_law_wanted"]
theorem sc_law_same : FnScope N_law_same p_law_same (defScope s_law_same) := ⟨rfl, rfl, rfl, by decide +kernel, rfl, by decide +kernel, by decide +kernel⟩
/-- _possible_limits(well) -/
abbrev s_possible_limits : Stmt := topS 27
abbrev N_possible_limits : List Str := ["well", "weights", "differences", "group", "heavy", "light", "limit"]
abbrev p_possible_limits : List Str := ["well"]
theorem sc_possible_limits : FnScope N_possible_limits p_possible_limits (defScope s_possible_limits) := ⟨rfl, rfl, rfl, by decide +kernel, rfl, by decide +kernel, by decide +kernel⟩
/-- total_count(counts) -/
abbrev s_total_count : Stmt := topS 20
abbrev N_total_count : List Str := ["counts", "part"]
abbrev p_total_count : List Str := ["counts"]
theorem sc_total_count : FnScope N_total_count p_total_count (defScope s_total_count) := ⟨rfl, rfl, rfl, by decide +kernel, rfl, by decide +kernel, by decide +kernel⟩
/-- weight_of(well, group) -/
abbrev s_weight_of : Stmt := topS 4
abbrev N_weight_of : List Str := ["well", "group"]
abbrev p_weight_of : List Str := ["well", "group"]
theorem sc_weight_of : FnScope N_weight_of p_weight_of (defScope s_weight_of) := ⟨rfl, rfl, rfl, by decide +kernel, rfl, by decide +kernel, by decide +kernel⟩
/-- is_move(well, down, up) -/
abbrev s_is_move : Stmt := topS 6
abbrev N_is_move : List Str := ["well", "down", "up"]
abbrev p_is_move : List Str := ["well", "down", "up"]
theorem sc_is_move : FnScope N_is_move p_is_move (defScope s_is_move) := ⟨rfl, rfl, rfl, by decide +kernel, rfl, by decide +kernel, by decide +kernel⟩
/-- starts_ungrounded(well, group) -/
abbrev s_starts_ungrounded : Stmt := topS 10
abbrev N_starts_ungrounded : List Str := ["well", "group"]
abbrev p_starts_ungrounded : List Str := ["well", "group"]
theorem sc_starts_ungrounded : FnScope N_starts_ungrounded p_starts_ungrounded (defScope s_starts_ungrounded) := ⟨rfl, rfl, rfl, by decide +kernel, rfl, by decide +kernel, by decide +kernel⟩
/-- segments(well) -/
abbrev s_segments : Stmt := topS 8
abbrev N_segments : List Str := ["well", "found", "group"]
abbrev p_segments : List Str := ["well"]
theorem sc_segments : FnScope N_segments p_segments (defScope s_segments) := ⟨rfl, rfl, rfl, by decide +kernel, rfl, by decide +kernel, by decide +kernel⟩
/-- suffix_counts(well, state) -/
abbrev s_suffix_counts : Stmt := topS 9
abbrev N_suffix_counts : List Str := ["well", "state", "segment", "group"]
abbrev p_suffix_counts : List Str := ["well", "state"]
theorem sc_suffix_counts : FnScope N_suffix_counts p_suffix_counts (defScope s_suffix_counts) := ⟨rfl, rfl, rfl, by decide +kernel, rfl, by decide +kernel, by decide +kernel⟩
/-- count_pairs(well, first, second) -/
abbrev s_count_pairs : Stmt := topS 11
abbrev N_count_pairs : List Str := ["well", "first", "second"]
abbrev p_count_pairs : List Str := ["well", "first", "second"]
theorem sc_count_pairs : FnScope N_count_pairs p_count_pairs (defScope s_count_pairs) := ⟨rfl, rfl, rfl, by decide +kernel, rfl, by decide +kernel, by decide +kernel⟩
/-- _obstructions(well, source, target) -/
abbrev s_obstructions : Stmt := topS 15
abbrev N_obstructions : List Str := ["well", "source", "target", "found", "group", "before", "after"]
abbrev p_obstructions : List Str := ["well", "source", "target"]
theorem sc_obstructions : FnScope N_obstructions p_obstructions (defScope s_obstructions) := ⟨rfl, rfl, rfl, by decide +kernel, rfl, by decide +kernel, by decide +kernel⟩
/-- obstruction(well, source, target) -/
abbrev s_obstruction : Stmt := topS 14
abbrev N_obstruction : List Str := ["well", "source", "target", "found"]
abbrev p_obstruction : List Str := ["well", "source", "target"]
theorem sc_obstruction : FnScope N_obstruction p_obstruction (defScope s_obstruction) := ⟨rfl, rfl, rfl, by decide +kernel, rfl, by decide +kernel, by decide +kernel⟩
/-- crossings(well, source, target) -/
abbrev s_crossings : Stmt := topS 17
abbrev N_crossings : List Str := ["well", "source", "target", "reason", "before", "after"]
abbrev p_crossings : List Str := ["well", "source", "target"]
theorem sc_crossings : FnScope N_crossings p_crossings (defScope s_crossings) := ⟨rfl, rfl, rfl, by decide +kernel, rfl, by decide +kernel, by decide +kernel⟩
/-- _take_first(pairs, number) -/
abbrev s_take_first : Stmt := topS 22
abbrev N_take_first : List Str := ["pairs", "number", "taken", "left", "up", "count", "part"]
abbrev p_take_first : List Str := ["pairs", "number"]
theorem sc_take_first : FnScope N_take_first p_take_first (defScope s_take_first) := ⟨rfl, rfl, rfl, by decide +kernel, rfl, by decide +kernel, by decide +kernel⟩
/-- _fewest_moves(well, source, target) -/
abbrev s_fewest_moves : Stmt := topS 21
abbrev N_fewest_moves : List Str := ["well", "source", "target", "counts", "begun", "group", "needed", "able", "carried", "ended", "up", "count", "pair"]
abbrev p_fewest_moves : List Str := ["well", "source", "target"]
theorem sc_fewest_moves : FnScope N_fewest_moves p_fewest_moves (defScope s_fewest_moves) := ⟨rfl, rfl, rfl, by decide +kernel, rfl, by decide +kernel, by decide +kernel⟩
/-- min_moves(well, source, target) -/
abbrev s_min_moves : Stmt := topS 19
abbrev N_min_moves : List Str := ["well", "source", "target"]
abbrev p_min_moves : List Str := ["well", "source", "target"]
theorem sc_min_moves : FnScope N_min_moves p_min_moves (defScope s_min_moves) := ⟨rfl, rfl, rfl, by decide +kernel, rfl, by decide +kernel, by decide +kernel⟩
/-- is_reachable(well, source, target) -/
abbrev s_is_reachable : Stmt := topS 13
abbrev N_is_reachable : List Str := ["well", "source", "target"]
abbrev p_is_reachable : List Str := ["well", "source", "target"]
theorem sc_is_reachable : FnScope N_is_reachable p_is_reachable (defScope s_is_reachable) := ⟨rfl, rfl, rfl, by decide +kernel, rfl, by decide +kernel, by decide +kernel⟩
/-- with_limit(well, limit) -/
abbrev s_with_limit : Stmt := topS 24
abbrev N_with_limit : List Str := ["well", "limit", "group"]
abbrev p_with_limit : List Str := ["well", "limit"]
theorem sc_with_limit : FnScope N_with_limit p_with_limit (defScope s_with_limit) := ⟨rfl, rfl, rfl, by decide +kernel, rfl, by decide +kernel, by decide +kernel⟩
/-- min_limit_for(well, source, target, size) -/
abbrev s_min_limit_for : Stmt := topS 26
abbrev N_min_limit_for : List Str := ["well", "source", "target", "size", "limit", "other"]
abbrev p_min_limit_for : List Str := ["well", "source", "target", "size"]
theorem sc_min_limit_for : FnScope N_min_limit_for p_min_limit_for (defScope s_min_limit_for) := ⟨rfl, rfl, rfl, by decide +kernel, rfl, by decide +kernel, by decide +kernel⟩
/-- min_limit(well, source, target) -/
abbrev s_min_limit : Stmt := topS 25
abbrev N_min_limit : List Str := ["well", "source", "target", "limit"]
abbrev p_min_limit : List Str := ["well", "source", "target"]
theorem sc_min_limit : FnScope N_min_limit p_min_limit (defScope s_min_limit) := ⟨rfl, rfl, rfl, by decide +kernel, rfl, by decide +kernel, by decide +kernel⟩
/-- _law_known_right(_law_times, _law_often) -/
abbrev s_law_known_right : Stmt := topS 34
abbrev N_law_known_right : List Str := ["_law_times", "_law_often", "_law_lots", "_law_shaft", "_law_none", "_law_alone", "_law_told", "_law_count", "_law_wide", "_law_there"]
abbrev p_law_known_right : List Str := ["_law_times", "_law_often"]
theorem sc_law_known_right : FnScope N_law_known_right p_law_known_right (defScope s_law_known_right) := ⟨rfl, rfl, rfl, by decide +kernel, rfl, by decide +kernel, by decide +kernel⟩
/-- _law_draw(_law_rng, _law_span) -/
abbrev s_law_draw : Stmt := topS 30
abbrev N_law_draw : List Str := ["_law_rng", "_law_span", "_law_found", "_law_stir", "_law_once", "_law_twice"]
abbrev p_law_draw : List Str := ["_law_rng", "_law_span"]
theorem sc_law_draw : FnScope N_law_draw p_law_draw (defScope s_law_draw) := ⟨rfl, rfl, rfl, by decide +kernel, rfl, by decide +kernel, by decide +kernel⟩
/-- _law_pick(_law_rng, _law_some) -/
abbrev s_law_pick : Stmt := topS 33
abbrev N_law_pick : List Str := ["_law_rng", "_law_some"]
abbrev p_law_pick : List Str := ["_law_rng", "_law_some"]
theorem sc_law_pick : FnScope N_law_pick p_law_pick (defScope s_law_pick) := ⟨rfl, rfl, rfl, by decide +kernel, rfl, by decide +kernel, by decide +kernel⟩
/-- _law_stream(_law_script, _law_k) -/
abbrev s_law_stream : Stmt := topS 29
abbrev N_law_stream : List Str := ["_law_script", "_law_k", "_law_cell"]
abbrev p_law_stream : List Str := ["_law_script", "_law_k"]
theorem sc_law_stream : FnScope N_law_stream p_law_stream (defScope s_law_stream) := ⟨rfl, rfl, rfl, by decide +kernel, rfl, by decide +kernel, by decide +kernel⟩
/-- _law_fold(_law_script, _law_span) -/
abbrev s_law_fold : Stmt := topS 31
abbrev N_law_fold : List Str := ["_law_script", "_law_span", "_law_cells", "_law_k", "_law_cell"]
abbrev p_law_fold : List Str := ["_law_script", "_law_span"]
theorem sc_law_fold : FnScope N_law_fold p_law_fold (defScope s_law_fold) := ⟨rfl, rfl, rfl, by decide +kernel, rfl, by decide +kernel, by decide +kernel⟩
/-- law(_law_script) -/
abbrev s_law : Stmt := topS 35
abbrev N_law : List Str := ["_law_script", "_law_cells", "_law_k", "_law_rng", "_law_times", "_law_often"]
abbrev p_law : List Str := ["_law_script"]
theorem sc_law : FnScope N_law p_law (defScope s_law) := ⟨rfl, rfl, rfl, by decide +kernel, rfl, by decide +kernel, by decide +kernel⟩
structure Txt (mg : Str → Option Value) : Prop where
  b_abs : mg "abs" = none
  b_all : mg "all" = none
  b_bool : mg "bool" = none
  b_divmod : mg "divmod" = none
  b_enumerate : mg "enumerate" = none
  b_int : mg "int" = none
  b_isinstance : mg "isinstance" = none
  b_len : mg "len" = none
  b_list : mg "list" = none
  b_max : mg "max" = none
  b_min : mg "min" = none
  b_range : mg "range" = none
  b_sorted : mg "sorted" = none
  b_str : mg "str" = none
  b_sum : mg "sum" = none
  b_tuple : mg "tuple" = none
  b_zip : mg "zip" = none
/-- a def of the text, found under its name -/
def Df (K : PySem.W.Frag) (mg : Str → Option Value) (x : Str) (st : Stmt) : Prop := ∃ f fd, Fun K x x st f fd ∧ mg x = some (.ref f)
theorem df_mk {K : PySem.W.Frag} {h : Heap} {mg : Str → Option Value} {x : Str} {st : Stmt} {f : Addr} {oc : Value} {od an : Option Addr} {osl : Array (Option Value)} {kV doc pm cdv ct : Value} (X : K.In h) (G : h.Ns mainGlobals mg)
    (a : PySem.W.nsIn K mainGlobals x = some (some (.ref f))) (l : K.lookup f = some ⟨oc, od, .func (PySem.W.fnOf x x (defArgs st) (defBody st) (defScope st) .none kV doc pm an cdv ct), osl⟩) (c : PySem.W.codeIn K cdv x = true) (k : PySem.W.keepIn K (.ref f) = true) : Df K mg x st :=
  ⟨f, _, fun_mk l c k, PySem.W.mg_of X G a⟩
theorem bnd_law_same : BndOk "_law_same" s_law_same p_law_same := fun _ _ _ _ _ _ us hl => match us, hl with | [_, _], _ => rfl
theorem bnd_possible_limits : BndOk "_possible_limits" s_possible_limits p_possible_limits := fun _ _ _ _ _ _ us hl => match us, hl with | [_], _ => rfl
theorem bnd_total_count : BndOk "total_count" s_total_count p_total_count := fun _ _ _ _ _ _ us hl => match us, hl with | [_], _ => rfl
theorem bnd_weight_of : BndOk "weight_of" s_weight_of p_weight_of := fun _ _ _ _ _ _ us hl => match us, hl with | [_, _], _ => rfl
theorem bnd_is_move : BndOk "is_move" s_is_move p_is_move := fun _ _ _ _ _ _ us hl => match us, hl with | [_, _, _], _ => rfl
theorem bnd_starts_ungrounded : BndOk "starts_ungrounded" s_starts_ungrounded p_starts_ungrounded := fun _ _ _ _ _ _ us hl => match us, hl with | [_, _], _ => rfl
theorem bnd_segments : BndOk "segments" s_segments p_segments := fun _ _ _ _ _ _ us hl => match us, hl with | [_], _ => rfl
theorem bnd_suffix_counts : BndOk "suffix_counts" s_suffix_counts p_suffix_counts := fun _ _ _ _ _ _ us hl => match us, hl with | [_, _], _ => rfl
theorem bnd_count_pairs : BndOk "count_pairs" s_count_pairs p_count_pairs := fun _ _ _ _ _ _ us hl => match us, hl with | [_, _, _], _ => rfl
theorem bnd_obstructions : BndOk "_obstructions" s_obstructions p_obstructions := fun _ _ _ _ _ _ us hl => match us, hl with | [_, _, _], _ => rfl
theorem bnd_obstruction : BndOk "obstruction" s_obstruction p_obstruction := fun _ _ _ _ _ _ us hl => match us, hl with | [_, _, _], _ => rfl
theorem bnd_crossings : BndOk "crossings" s_crossings p_crossings := fun _ _ _ _ _ _ us hl => match us, hl with | [_, _, _], _ => rfl
theorem bnd_take_first : BndOk "_take_first" s_take_first p_take_first := fun _ _ _ _ _ _ us hl => match us, hl with | [_, _], _ => rfl
theorem bnd_fewest_moves : BndOk "_fewest_moves" s_fewest_moves p_fewest_moves := fun _ _ _ _ _ _ us hl => match us, hl with | [_, _, _], _ => rfl
theorem bnd_min_moves : BndOk "min_moves" s_min_moves p_min_moves := fun _ _ _ _ _ _ us hl => match us, hl with | [_, _, _], _ => rfl
theorem bnd_is_reachable : BndOk "is_reachable" s_is_reachable p_is_reachable := fun _ _ _ _ _ _ us hl => match us, hl with | [_, _, _], _ => rfl
theorem bnd_with_limit : BndOk "with_limit" s_with_limit p_with_limit := fun _ _ _ _ _ _ us hl => match us, hl with | [_, _], _ => rfl
theorem bnd_min_limit_for : BndOk "min_limit_for" s_min_limit_for p_min_limit_for := fun _ _ _ _ _ _ us hl => match us, hl with | [_, _, _, _], _ => rfl
theorem bnd_min_limit : BndOk "min_limit" s_min_limit p_min_limit := fun _ _ _ _ _ _ us hl => match us, hl with | [_, _, _], _ => rfl
theorem bnd_law_known_right : BndOk "_law_known_right" s_law_known_right p_law_known_right := fun _ _ _ _ _ _ us hl => match us, hl with | [_, _], _ => rfl
theorem bnd_law_draw : BndOk "_law_draw" s_law_draw p_law_draw := fun _ _ _ _ _ _ us hl => match us, hl with | [_, _], _ => rfl
theorem bnd_law_pick : BndOk "_law_pick" s_law_pick p_law_pick := fun _ _ _ _ _ _ us hl => match us, hl with | [_, _], _ => rfl
theorem bnd_law_stream : BndOk "_law_stream" s_law_stream p_law_stream := fun _ _ _ _ _ _ us hl => match us, hl with | [_, _], _ => rfl
theorem bnd_law_fold : BndOk "_law_fold" s_law_fold p_law_fold := fun _ _ _ _ _ _ us hl => match us, hl with | [_, _], _ => rfl
theorem bnd_law : BndOk "law" s_law p_law := fun _ _ _ _ _ _ us hl => match us, hl with | [_], _ => rfl
section
variable {P : Program} {w : World} {K : PySem.W.Frag} {mg : Str → Option Value} {base : Heap}
theorem Cal.weak {CX : CXT} {k : Nat} {x : Str} {st : Stmt} {ps : List Str} {n : Nat} {S S' : DSp} (G : Cal P w K mg base CX k x st ps n S) (h : ∀ as R Q, S' as R Q → S as R Q) : Cal P w K mg base CX k x st ps n S' := by
  obtain ⟨⟨f, fd, F, m, ok⟩, b⟩ := G
  have t : ∀ vs H Q E, spOf n S' vs H Q E → spOf n S vs H Q E := fun vs H Q E ⟨as, ms, P, Q', R, h1, h2, h3, h4, h5, h6, h7⟩ => ⟨as, ms, P, Q', R, h1, h2, h3, h4, h5, h _ _ _ h6, h7⟩
  exact ⟨⟨f, fd, F, m, fun vs H Q E z => ok.len vs H Q E (t vs H Q E z), fun A outer s H args us vs Q E hr b1 b2 b3 z => ok.run A outer s H args us vs Q E hr b1 b2 b3 (t vs H Q E z)⟩, b⟩
theorem ok_law_same (T : Txt mg) (D : Df K mg "_law_same" s_law_same)  : ∀ n : Nat, n ≤ 30 → Cal P w K mg base CX0 (n + 0) "_law_same" s_law_same p_law_same 2 (S_same n)
  | 0, _ => by
    obtain ⟨f, fd, F, m⟩ := D
    exact Cal.weak (Cal.never F m bnd_law_same) (fun as R Q h => by obtain ⟨x, _, h, _⟩ := h; omega)
  | n + 1, hn => by
    have G_law_same := ok_law_same T D  n (by omega)
    obtain ⟨f, fd, F, m⟩ := D
    have e : n + 1 + 0 = n + 0 + 1 := by omega
    rw [e]
    exact ⟨⟨_, _, F, m, fn_data F sc_law_same rfl (by decide) (fun cdv A outer s H E hr => ⟨w_law_same (S_same n), (dss_cons (ds_if (dt_val (de_isiT rfl T.b_isinstance (da_var 1) (cn_cons rfl T.b_list (by decide +kernel) (cn_cons rfl T.b_tuple (by decide +kernel) cn_nil)))) (dss_cons (ds_if (DW.dt (dw_or (dt_cmp (op_neU (hu64 hr)) opd_neD (da_of (de_isi rfl T.b_isinstance (da_var 0) (cn_cons rfl T.b_list (by decide +kernel) cn_nil))) (da_of (de_isi rfl T.b_isinstance (da_var 1) (cn_cons rfl T.b_list (by decide +kernel) cn_nil)))) (dw_or1 (dt_cmp (op_neU (hu64 hr)) opd_neD (da_of (de_isi rfl T.b_isinstance (da_var 0) (cn_cons rfl T.b_tuple (by decide +kernel) cn_nil))) (da_of (de_isi rfl T.b_isinstance (da_var 1) (cn_cons rfl T.b_tuple (by decide +kernel) cn_nil))))))) (dss_one (ds_ret de_bl)) dss_nil)
  (dss_one (ds_ret (de_and (de_cmp (op_eqU (hu64 hr)) opd_eqD (da_of (de_callB call_len_seq cd_len rfl T.b_len (by decide +kernel) (das_cons (da_var 0) das_nil))) (da_of (de_callB call_len_seq cd_len rfl T.b_len (by decide +kernel) (das_cons (da_var 1) das_nil)))) (de_one (de_callB (cr_all rfl) cd_all rfl T.b_all (by decide +kernel) (das_cons (da_of (de_lc (own := [("_law_mine", 2), ("_law_its", 3)]) rfl sc_law_same.nd (blkOk_by (own := [("_law_mine", 2), ("_law_its", 3)]) (N := N_law_same) (sc := defScope s_law_same) (by decide +kernel)) (di_zip rfl T.b_zip (de_var 0) (de_var 1)) (fun _ _ _ _ _ => (dg_tup rfl (dgs_cons (dg_name 2 sc_law_same.nd) (dgs_cons (dg_name 3 sc_law_same.nd) dgs_nil)))) (fun _ _ _ _ _ => dts_nil) (fun _ _ _ _ _ => (de_callC G_law_same (hr.mono (by omega)) rfl passE0 (das_cons (da_of (de_var 2)) (das_cons (da_of (de_var 3)) das_nil)))))) das_nil))))))) dss_nil)
  (dss_cons (ds_if (DW.dt (dw_or (dt_cmp op_isU opd_isN (da_var 1) (da_of de_non)) (dw_or1 (dt_val (de_isi rfl T.b_isinstance (da_var 1) (cn_cons rfl T.b_str (by decide +kernel) cn_nil)))))) (dss_one (ds_ret (de_and (de_cmp (op_eqU (hu64 hr)) opd_eqD (da_var 0) (da_var 1)) (de_one (de_cmp (op_eqU (hu64 hr)) opd_eqD (da_of (de_isi rfl T.b_isinstance (da_var 0) (cn_cons rfl T.b_str (by decide +kernel) cn_nil))) (da_of (de_isi rfl T.b_isinstance (da_var 1) (cn_cons rfl T.b_str (by decide +kernel) cn_nil)))))))) dss_nil)
  (dss_one (ds_ret (de_and (de_isi rfl T.b_isinstance (da_var 0) (cn_cons rfl T.b_int (by decide +kernel) cn_nil)) (de_and (de_cmp (op_eqU (hu64 hr)) opd_eqD (da_of (de_isi rfl T.b_isinstance (da_var 0) (cn_cons rfl T.b_bool (by decide +kernel) cn_nil))) (da_of (de_isi rfl T.b_isinstance (da_var 1) (cn_cons rfl T.b_bool (by decide +kernel) cn_nil)))) (de_one (de_cmp (op_eqU (hu64 hr)) opd_eqD (da_var 0) (da_var 1))))))))), (b_law_same n (by omega))⟩)⟩, bnd_law_same⟩
theorem ok_possible_limits (T : Txt mg) (D : Df K mg "_possible_limits" s_possible_limits)  : Cal P w K mg base CX0 1 "_possible_limits" s_possible_limits p_possible_limits 1 S_possible_limits := by
  obtain ⟨f, fd, F, m⟩ := D
  exact ⟨⟨_, _, F, m, fn_data F sc_possible_limits rfl (by decide) (fun cdv A outer s H E hr => ⟨w_possible_limits (ordB w), (dss_cons (ds_set (i := 1) sc_possible_limits.nd rfl (Or.inr rfl) (de_op op_addU opd_addU (da_of (de_lst (des_cons de_int des_nil))) (da_of (de_lc (own := [("group", 3)]) rfl sc_possible_limits.nd (blkOk_by (own := [("group", 3)]) (N := N_possible_limits) (sc := defScope s_possible_limits) (by decide +kernel)) (di_seq (de_ix ix_U opd_ix (da_var 0) (da_of de_int))) (fun _ _ _ _ _ => (dg_name 3 sc_possible_limits.nd)) (fun _ _ _ _ _ => dts_nil) (fun _ _ _ _ _ => (de_ix ix_U opd_ix (da_var 3) (da_of de_int)))))))
  (dss_cons (ds_setSc2 (i := 2) (own := [("heavy", 4), ("light", 5)]) (vs1 := [5]) rfl sc_possible_limits.nd rfl rfl (sw_trueS rfl rfl rfl (by decide +kernel)) (blkOk_by (own := [("heavy", 4), ("light", 5)]) (N := N_possible_limits) (sc := defScope s_possible_limits) (by decide +kernel)) (by decide) (di_seq (de_var 1)) (fun _ _ _ _ _ => (dg_mono (vs := [4]) (by decide) (dg_name 4 sc_possible_limits.nd))) (fun _ _ _ _ _ => dts_nil) (fun _ _ _ _ _ => (di_seq (de_var 1))) (fun _ _ _ _ _ => (dg_name 5 sc_possible_limits.nd)) (fun _ _ _ _ _ => dts_nil) (fun _ _ _ _ _ => (de_op op_sub opd_sub' (da_var 4) (da_var 5))))
  (dss_one (ds_ret (de_op op_addU opd_addU (da_of (de_lst (des_cons de_int des_nil))) (da_of (de_lc (own := [("limit", 6)]) rfl sc_possible_limits.nd (blkOk_by (own := [("limit", 6)]) (N := N_possible_limits) (sc := defScope s_possible_limits) (by decide +kernel)) (di_seq (de_sorN rfl rfl T.b_sorted (de_var 2))) (fun _ _ _ _ _ => (dg_name 6 sc_possible_limits.nd)) (fun _ _ _ _ _ => (dts_one (dt_cmp op_gt opd_gt' (da_var 6) (da_of de_int)))) (fun _ _ _ _ _ => (de_var 6))))))))), b_possible_limits (ordB w)⟩)⟩, bnd_possible_limits⟩
theorem ok_total_count (T : Txt mg) (D : Df K mg "total_count" s_total_count)  : Cal P w K mg base CX0 1 "total_count" s_total_count p_total_count 1 S_total_count := by
  obtain ⟨f, fd, F, m⟩ := D
  exact ⟨⟨_, _, F, m, fn_data F sc_total_count rfl (by decide) (fun cdv A outer s H E hr => ⟨w_total_count, (dss_one (ds_ret (de_callB (cr_sumU rfl) cd_sum rfl T.b_sum (by decide +kernel) (das_cons (da_of (de_lc (own := [("part", 1)]) rfl sc_total_count.nd (blkOk_by (own := [("part", 1)]) (N := N_total_count) (sc := defScope s_total_count) (by decide +kernel)) (di_seq (de_var 0)) (fun _ _ _ _ _ => (dg_name 1 sc_total_count.nd)) (fun _ _ _ _ _ => dts_nil) (fun _ _ _ _ _ => (de_ix ix_U opd_ix (da_var 1) (da_of de_int))))) das_nil)))), b_total_count⟩)⟩, bnd_total_count⟩
theorem ok_weight_of (T : Txt mg) (D : Df K mg "weight_of" s_weight_of)  : Cal P w K mg base CX0 1 "weight_of" s_weight_of p_weight_of 2 S_weight_of := by
  obtain ⟨f, fd, F, m⟩ := D
  exact ⟨⟨_, _, F, m, fn_data F sc_weight_of rfl (by decide) (fun cdv A outer s H E hr => ⟨w_weight_of, (dss_cons (ds_if (dt_cmp (op_eqU (hu64 hr)) opd_eqD (da_var 1) (da_of (de_un un_neg und_neg (da_of de_int)))) (dss_one (ds_ret de_int)) dss_nil)
  (dss_cons (ds_if (dt_not (dt_chain op_le opd_le' op_lt opd_lt' (da_of de_int) (da_var 1) (da_of (de_callB call_len_seq cd_len rfl T.b_len (by decide +kernel) (das_cons (da_of (de_ix ix_U opd_ix (da_var 0) (da_of de_int))) das_nil))))) (dss_one ds_never) dss_nil)
  (dss_one (ds_ret (de_ix ix_U opd_ix (da_of (de_ix ix_U opd_ix (da_of (de_ix ix_U opd_ix (da_var 0) (da_of de_int))) (da_var 1))) (da_of de_int)))))), b_weight_of⟩)⟩, bnd_weight_of⟩
theorem ok_is_move (T : Txt mg) (D : Df K mg "is_move" s_is_move) (G_weight_of : Cal P w K mg base CX0 1 "weight_of" s_weight_of p_weight_of 2 S_weight_of) : Cal P w K mg base CX0 2 "is_move" s_is_move p_is_move 3 S_is_move := by
  obtain ⟨f, fd, F, m⟩ := D
  exact ⟨⟨_, _, F, m, fn_data F sc_is_move rfl (by decide) (fun cdv A outer s H E hr => ⟨w_is_move, (dss_cons (ds_if (DW.dt (dw_or (dt_not (dt_chain op_le opd_le' op_lt opd_lt' (da_of de_int) (da_var 1) (da_of (de_callB call_len_seq cd_len rfl T.b_len (by decide +kernel) (das_cons (da_of (de_ix ix_U opd_ix (da_var 0) (da_of de_int))) das_nil))))) (dw_or1 (dt_not (dt_chain op_le opd_le' op_lt opd_lt' (da_of (de_un un_neg und_neg (da_of de_int))) (da_var 2) (da_var 1)))))) (dss_one (ds_ret de_bl)) dss_nil)
  (dss_one (ds_ret (de_cmp op_le opd_le' (da_of (de_op op_sub opd_sub' (da_of (de_callC G_weight_of (hr.mono (by omega)) rfl passE0 (das_cons (da_of (de_var 0)) (das_cons (da_of (de_var 1)) das_nil)))) (da_of (de_callC G_weight_of (hr.mono (by omega)) rfl passE0 (das_cons (da_of (de_var 0)) (das_cons (da_of (de_var 2)) das_nil)))))) (da_of (de_ix ix_U opd_ix (da_var 0) (da_of de_int))))))), b_is_move⟩)⟩, bnd_is_move⟩
theorem ok_starts_ungrounded (T : Txt mg) (D : Df K mg "starts_ungrounded" s_starts_ungrounded) (G_is_move : Cal P w K mg base CX0 2 "is_move" s_is_move p_is_move 3 S_is_move) : Cal P w K mg base CX0 3 "starts_ungrounded" s_starts_ungrounded p_starts_ungrounded 2 S_starts_ungrounded := by
  obtain ⟨f, fd, F, m⟩ := D
  exact ⟨⟨_, _, F, m, fn_data F sc_starts_ungrounded rfl (by decide) (fun cdv A outer s H E hr => ⟨w_starts_ungrounded, (dss_one (ds_ret (de_not (de_callC G_is_move (hr.mono (by omega)) rfl passE0 (das_cons (da_of (de_var 0)) (das_cons (da_of (de_var 1)) (das_cons (da_of (de_op op_sub opd_sub' (da_var 1) (da_of de_int))) das_nil))))))), b_starts_ungrounded⟩)⟩, bnd_starts_ungrounded⟩
theorem ok_segments (T : Txt mg) (D : Df K mg "segments" s_segments) (G_starts_ungrounded : Cal P w K mg base CX0 3 "starts_ungrounded" s_starts_ungrounded p_starts_ungrounded 2 S_starts_ungrounded) : Cal P w K mg base CX0 4 "segments" s_segments p_segments 1 S_segments := by
  obtain ⟨f, fd, F, m⟩ := D
  exact ⟨⟨_, _, F, m, fn_data F sc_segments rfl (by decide) (fun cdv A outer s H E hr => ⟨w_segments, (dss_nest0 (i := 1) (g := 2) PassesOwn.never rfl sc_segments.nd (di_range1 rfl T.b_range (da_of (de_callB call_len_seq cd_len rfl T.b_len (by decide +kernel) (das_cons (da_of (de_ix ix_U opd_ix (da_var 0) (da_of de_int))) das_nil)))) (DW.dt (dw_or (dt_cmp (op_eqU (hu64 hr)) opd_eqD (da_var 2) (da_of de_int)) (dw_or1 (dt_val (de_callC G_starts_ungrounded (hr.mono (by omega)) rfl passE0 (das_cons (da_of (de_var 0)) (das_cons (da_of (de_var 2)) das_nil)))))))
  (dss_one (ds_ret (de_var 1)))), b_segments⟩)⟩, bnd_segments⟩
theorem ok_suffix_counts (T : Txt mg) (D : Df K mg "suffix_counts" s_suffix_counts) (G_segments : Cal P w K mg base CX0 4 "segments" s_segments p_segments 1 S_segments) : Cal P w K mg base CX0 5 "suffix_counts" s_suffix_counts p_suffix_counts 2 S_suffix_counts := by
  obtain ⟨f, fd, F, m⟩ := D
  exact ⟨⟨_, _, F, m, fn_data F sc_suffix_counts rfl (by decide) (fun cdv A outer s H E hr => ⟨w_suffix_counts, (dss_one (ds_ret (de_callTy call_tuple_of cd_tuple rfl T.b_tuple (by decide +kernel) (das_cons (da_of (de_lc2 (own := [("segment", 2), ("group", 3)]) (vs1 := [3]) rfl sc_suffix_counts.nd (blkOk_by (own := [("segment", 2), ("group", 3)]) (N := N_suffix_counts) (sc := defScope s_suffix_counts) (by decide +kernel)) (by decide) (di_seq (de_callC G_segments (hr.mono (by omega)) rfl passE0 (das_cons (da_of (de_var 0)) das_nil))) (fun _ _ _ _ _ => (dg_mono (vs := [2]) (by decide) (dg_name 2 sc_suffix_counts.nd))) (fun _ _ _ _ _ => dts_nil) (fun _ _ _ _ _ => (di_seq (de_var 2))) (fun _ _ _ _ _ => (dg_name 3 sc_suffix_counts.nd)) (fun _ _ _ _ _ => dts_nil) (fun _ _ _ _ _ => (de_callB (cr_sumU rfl) cd_sum rfl T.b_sum (by decide +kernel) (das_cons (da_of (de_sl (da_var 1) (dp_some (da_var 3)) (dp_some (da_of (de_op op_addU opd_addU (da_of (de_ix ix_U opd_ix (da_var 2) (da_of (de_un un_neg und_neg (da_of de_int))))) (da_of de_int)))))) das_nil))))) das_nil)))), b_suffix_counts⟩)⟩, bnd_suffix_counts⟩
theorem ok_count_pairs (T : Txt mg) (D : Df K mg "count_pairs" s_count_pairs) (G_suffix_counts : Cal P w K mg base CX0 5 "suffix_counts" s_suffix_counts p_suffix_counts 2 S_suffix_counts) : Cal P w K mg base CX0 6 "count_pairs" s_count_pairs p_count_pairs 3 S_count_pairs := by
  obtain ⟨f, fd, F, m⟩ := D
  exact ⟨⟨_, _, F, m, fn_data F sc_count_pairs rfl (by decide) (fun cdv A outer s H E hr => ⟨w_count_pairs, (dss_one (ds_ret (de_listZip rfl rfl T.b_list rfl T.b_zip (de_callC G_suffix_counts (hr.mono (by omega)) rfl passE0 (das_cons (da_of (de_var 0)) (das_cons (da_of (de_var 1)) das_nil))) (de_callC G_suffix_counts (hr.mono (by omega)) rfl passE0 (das_cons (da_of (de_var 0)) (das_cons (da_of (de_var 2)) das_nil)))))), b_count_pairs⟩)⟩, bnd_count_pairs⟩
theorem ok_obstructions (T : Txt mg) (D : Df K mg "_obstructions" s_obstructions) (G_count_pairs : Cal P w K mg base CX0 6 "count_pairs" s_count_pairs p_count_pairs 3 S_count_pairs) (G_starts_ungrounded : Cal P w K mg base CX0 3 "starts_ungrounded" s_starts_ungrounded p_starts_ungrounded 2 S_starts_ungrounded) : Cal P w K mg base CX0 7 "_obstructions" s_obstructions p_obstructions 3 S_obstructions := by
  obtain ⟨f, fd, F, m⟩ := D
  exact ⟨⟨_, _, F, m, fn_data F sc_obstructions rfl (by decide) (fun cdv A outer s H E hr => ⟨w_obstructions, (dss_cons (ds_set (i := 3) sc_obstructions.nd rfl (Or.inl rfl) (de_lst des_nil))
  (dss_cons (ds_for PassesOwn.never rfl (di_enum rfl T.b_enumerate (de_callC G_count_pairs (hr.mono (by omega)) rfl passE0 (das_cons (da_of (de_var 0)) (das_cons (da_of (de_var 1)) (das_cons (da_of (de_var 2)) das_nil))))) (dg_tup rfl (dgs_cons (dg_name 4 sc_obstructions.nd) (dgs_cons (dg_tup rfl (dgs_cons (dg_name 5 sc_obstructions.nd) (dgs_cons (dg_name 6 sc_obstructions.nd) dgs_nil))) dgs_nil))) (dss_one (ds_if (dt_cmp op_lt opd_lt' (da_var 6) (da_var 5)) (dss_one (ds_append 3 (de_tup (des_cons de_str (des_cons (de_var 4) des_nil))))) (dss_one (ds_if (DW.dt (dw_and (dt_cmp op_gt opd_gt' (da_var 6) (da_var 5)) (dw_and1 (dt_val (de_callC G_starts_ungrounded (hr.mono (by omega)) rfl passE0 (das_cons (da_of (de_var 0)) (das_cons (da_of (de_var 4)) das_nil))))))) (dss_one (ds_append 3 (de_tup (des_cons de_str (des_cons (de_var 4) des_nil))))) dss_nil)))))
  (dss_one (ds_ret (de_var 3))))), b_obstructions⟩)⟩, bnd_obstructions⟩
theorem ok_obstruction (T : Txt mg) (D : Df K mg "obstruction" s_obstruction) (G_obstructions : Cal P w K mg base CX0 7 "_obstructions" s_obstructions p_obstructions 3 S_obstructions) : Cal P w K mg base CX0 8 "obstruction" s_obstruction p_obstruction 3 S_obstruction := by
  obtain ⟨f, fd, F, m⟩ := D
  exact ⟨⟨_, _, F, m, fn_data F sc_obstruction rfl (by decide) (fun cdv A outer s H E hr => ⟨w_obstruction, (dss_cons (ds_set (i := 3) sc_obstruction.nd rfl (Or.inl rfl) (de_callC G_obstructions (hr.mono (by omega)) rfl passE0 (das_cons (da_of (de_var 0)) (das_cons (da_of (de_var 1)) (das_cons (da_of (de_var 2)) das_nil)))))
  (dss_one (ds_ret (de_if (dt_tru (de_var 3)) (de_ix ix_U opd_ix (da_var 3) (da_of de_int)) de_non)))), b_obstruction⟩)⟩, bnd_obstruction⟩
theorem ok_crossings (T : Txt mg) (D : Df K mg "crossings" s_crossings) (G_count_pairs : Cal P w K mg base CX0 6 "count_pairs" s_count_pairs p_count_pairs 3 S_count_pairs) (G_obstruction : Cal P w K mg base CX0 8 "obstruction" s_obstruction p_obstruction 3 S_obstruction) : Cal P w K mg base CX0 9 "crossings" s_crossings p_crossings 3 S_crossings := by
  obtain ⟨f, fd, F, m⟩ := D
  exact ⟨⟨_, _, F, m, fn_data F sc_crossings rfl (by decide) (fun cdv A outer s H E hr => ⟨w_crossings, (dss_cons (ds_set (i := 3) sc_crossings.nd rfl (Or.inl rfl) (de_callC G_obstruction (hr.mono (by omega)) rfl passE0 (das_cons (da_of (de_var 0)) (das_cons (da_of (de_var 1)) (das_cons (da_of (de_var 2)) das_nil)))))
  (dss_cons (ds_if (dt_cmp op_notU opd_notN (da_var 3) (da_of de_non)) (dss_one ds_never) dss_nil)
  (dss_one (ds_ret (de_callTy call_tuple_of cd_tuple rfl T.b_tuple (by decide +kernel) (das_cons (da_of (de_lc (own := [("before", 4), ("after", 5)]) rfl sc_crossings.nd (blkOk_by (own := [("before", 4), ("after", 5)]) (N := N_crossings) (sc := defScope s_crossings) (by decide +kernel)) (di_seq (de_callC G_count_pairs (hr.mono (by omega)) rfl passE0 (das_cons (da_of (de_var 0)) (das_cons (da_of (de_var 1)) (das_cons (da_of (de_var 2)) das_nil))))) (fun _ _ _ _ _ => (dg_tup rfl (dgs_cons (dg_name 4 sc_crossings.nd) (dgs_cons (dg_name 5 sc_crossings.nd) dgs_nil)))) (fun _ _ _ _ _ => dts_nil) (fun _ _ _ _ _ => (de_op op_sub opd_sub' (da_var 5) (da_var 4))))) das_nil)))))), b_crossings⟩)⟩, bnd_crossings⟩
theorem ok_take_first (T : Txt mg) (D : Df K mg "_take_first" s_take_first)  : Cal P w K mg base CX0 1 "_take_first" s_take_first p_take_first 2 S_take_first := by
  obtain ⟨f, fd, F, m⟩ := D
  exact ⟨⟨_, _, F, m, fn_data F sc_take_first rfl (by decide) (fun cdv A outer s H E hr => ⟨w_take_first, (dss_cons (ds_par (i := 2) (j := 3) rfl sc_take_first.nd rfl rfl (by decide) rfl rfl (drs_cons (de_lst des_nil) (drs_cons (de_lst des_nil) drs_nil)) rfl)
  (dss_cons (ds_for PassesOwn.never rfl (di_seq (de_var 0)) (dg_tup rfl (dgs_cons (dg_name 4 sc_take_first.nd) (dgs_cons (dg_name 5 sc_take_first.nd) dgs_nil))) (dss_cons (ds_set (i := 6) sc_take_first.nd rfl (Or.inl rfl) (de_callB (call_min2 rfl) cd_min2 rfl T.b_min (by decide +kernel) (das_cons (da_var 5) (das_cons (da_var 1) das_nil))))
  (dss_cons (ds_aug (i := 1) sc_take_first.nd rfl (Or.inl rfl) (da_var 6) pip_sub opd_sub')
  (dss_cons (ds_if (dt_cmp op_gt opd_gt' (da_var 6) (da_of de_int)) (dss_one (ds_append 2 (de_tup (des_cons (de_var 4) (des_cons (de_var 6) des_nil))))) dss_nil)
  (dss_one (ds_if (dt_cmp op_lt opd_lt' (da_var 6) (da_var 5)) (dss_one (ds_append 3 (de_tup (des_cons (de_var 4) (des_cons (de_op op_sub opd_sub' (da_var 5) (da_var 6)) des_nil))))) dss_nil))))))
  (dss_one (ds_ret (de_pair 2 3))))), b_take_first⟩)⟩, bnd_take_first⟩
theorem ok_fewest_moves (T : Txt mg) (D : Df K mg "_fewest_moves" s_fewest_moves) (G_crossings : Cal P w K mg base CX0 9 "crossings" s_crossings p_crossings 3 S_crossings) (G_take_first : Cal P w K mg base CX0 1 "_take_first" s_take_first p_take_first 2 S_take_first) (G_is_move : Cal P w K mg base CX0 2 "is_move" s_is_move p_is_move 3 S_is_move) : Cal P w K mg base CX0 10 "_fewest_moves" s_fewest_moves p_fewest_moves 3 S_fewest_moves := by
  obtain ⟨f, fd, F, m⟩ := D
  exact ⟨⟨_, _, F, m, fn_data F sc_fewest_moves rfl (by decide) (fun cdv A outer s H E hr => ⟨w_fewest_moves, (dss_cons (ds_set (i := 3) sc_fewest_moves.nd rfl (Or.inl rfl) (de_lst des_nil))
  (dss_cons (ds_set (i := 4) sc_fewest_moves.nd rfl (Or.inl rfl) (de_lst des_nil))
  (dss_cons (ds_for PassesOwn.never rfl (di_enumB rfl T.b_enumerate (de_op op_addU opd_addU (da_of (de_callC G_crossings (hr.mono (by omega)) rfl passE0 (das_cons (da_of (de_var 0)) (das_cons (da_of (de_var 1)) (das_cons (da_of (de_var 2)) das_nil))))) (da_of (de_tup (des_cons de_int des_nil))))) (dg_tup rfl (dgs_cons (dg_name 5 sc_fewest_moves.nd) (dgs_cons (dg_name 6 sc_fewest_moves.nd) dgs_nil))) (dss_cons (ds_set (i := 7) sc_fewest_moves.nd rfl (Or.inl rfl) (de_callB (cr_sumU rfl) cd_sum rfl T.b_sum (by decide +kernel) (das_cons (da_of (de_lc (own := [("up", 10), ("count", 11)]) rfl sc_fewest_moves.nd (blkOk_by (own := [("up", 10), ("count", 11)]) (N := N_fewest_moves) (sc := defScope s_fewest_moves) (by decide +kernel)) (di_seq (de_var 4)) (fun _ _ _ _ _ => (dg_tup rfl (dgs_cons (dg_name 10 sc_fewest_moves.nd) (dgs_cons (dg_name 11 sc_fewest_moves.nd) dgs_nil)))) (fun _ _ _ _ _ => (dts_one (dt_val (de_callC G_is_move (hr.mono (by omega)) rfl passE0 (das_cons (da_of (de_var 0)) (das_cons (da_of (de_var 5)) (das_cons (da_of (de_var 10)) das_nil))))))) (fun _ _ _ _ _ => (de_var 11)))) das_nil)))
  (dss_cons (ds_set (i := 8) sc_fewest_moves.nd rfl (Or.inl rfl) (de_callB (call_min2 rfl) cd_min2 rfl T.b_min (by decide +kernel) (das_cons (da_var 6) (das_cons (da_var 7) das_nil))))
  (dss_cons (ds_asgP (i := 9) (j := 4) rfl sc_fewest_moves.nd rfl rfl (Or.inl rfl) (Or.inl rfl) (de_callC G_take_first (hr.mono (by omega)) rfl passE0 (das_cons (da_of (de_var 4)) (das_cons (da_of (de_op op_sub opd_sub' (da_of (de_callB (cr_sumU rfl) cd_sum rfl T.b_sum (by decide +kernel) (das_cons (da_of (de_lc (own := [("pair", 12)]) rfl sc_fewest_moves.nd (blkOk_by (own := [("pair", 12)]) (N := N_fewest_moves) (sc := defScope s_fewest_moves) (by decide +kernel)) (di_seq (de_var 4)) (fun _ _ _ _ _ => (dg_name 12 sc_fewest_moves.nd)) (fun _ _ _ _ _ => dts_nil) (fun _ _ _ _ _ => (de_ix ix_U opd_ix (da_var 12) (da_of de_int))))) das_nil))) (da_var 8))) das_nil))))
  (dss_cons (ds_extend 3 (de_lc (own := [("up", 10), ("count", 11)]) rfl sc_fewest_moves.nd (blkOk_by (own := [("up", 10), ("count", 11)]) (N := N_fewest_moves) (sc := defScope s_fewest_moves) (by decide +kernel)) (di_seq (de_var 9)) (fun _ _ _ _ _ => (dg_tup rfl (dgs_cons (dg_name 10 sc_fewest_moves.nd) (dgs_cons (dg_name 11 sc_fewest_moves.nd) dgs_nil)))) (fun _ _ _ _ _ => dts_nil) (fun _ _ _ _ _ => (de_tup (des_cons (de_op op_sub opd_sub' (da_var 5) (da_of de_int)) (des_cons (de_var 10) (des_cons (de_var 11) des_nil)))))))
  (dss_one (ds_if (dt_cmp op_gt opd_gt' (da_var 6) (da_var 8)) (dss_one (ds_append 4 (de_tup (des_cons (de_op op_sub opd_sub' (da_var 5) (da_of de_int)) (des_cons (de_op op_sub opd_sub' (da_var 6) (da_var 8)) des_nil))))) dss_nil)))))))
  (dss_one (ds_ret (de_var 3)))))), b_fewest_moves⟩)⟩, bnd_fewest_moves⟩
theorem ok_min_moves (T : Txt mg) (D : Df K mg "min_moves" s_min_moves) (G_total_count : Cal P w K mg base CX0 1 "total_count" s_total_count p_total_count 1 S_total_count) (G_fewest_moves : Cal P w K mg base CX0 10 "_fewest_moves" s_fewest_moves p_fewest_moves 3 S_fewest_moves) : Cal P w K mg base CX0 11 "min_moves" s_min_moves p_min_moves 3 S_min_moves := by
  obtain ⟨f, fd, F, m⟩ := D
  exact ⟨⟨_, _, F, m, fn_data F sc_min_moves rfl (by decide) (fun cdv A outer s H E hr => ⟨w_min_moves, (dss_one (ds_ret (de_callC G_total_count (hr.mono (by omega)) rfl passE0 (das_cons (da_of (de_callC G_fewest_moves (hr.mono (by omega)) rfl passE0 (das_cons (da_of (de_var 0)) (das_cons (da_of (de_var 1)) (das_cons (da_of (de_var 2)) das_nil))))) das_nil)))), b_min_moves⟩)⟩, bnd_min_moves⟩
theorem ok_is_reachable (T : Txt mg) (D : Df K mg "is_reachable" s_is_reachable) (G_obstruction : Cal P w K mg base CX0 8 "obstruction" s_obstruction p_obstruction 3 S_obstruction) : Cal P w K mg base CX0 9 "is_reachable" s_is_reachable p_is_reachable 3 S_is_reachable := by
  obtain ⟨f, fd, F, m⟩ := D
  exact ⟨⟨_, _, F, m, fn_data F sc_is_reachable rfl (by decide) (fun cdv A outer s H E hr => ⟨w_is_reachable, (dss_one (ds_ret (de_cmp op_isU opd_isN (da_of (de_callC G_obstruction (hr.mono (by omega)) rfl passE0 (das_cons (da_of (de_var 0)) (das_cons (da_of (de_var 1)) (das_cons (da_of (de_var 2)) das_nil))))) (da_of de_non)))), b_is_reachable⟩)⟩, bnd_is_reachable⟩
theorem ok_with_limit (T : Txt mg) (D : Df K mg "with_limit" s_with_limit)  : Cal P w K mg base CX0 1 "with_limit" s_with_limit p_with_limit 2 S_with_limit := by
  obtain ⟨f, fd, F, m⟩ := D
  exact ⟨⟨_, _, F, m, fn_data F sc_with_limit rfl (by decide) (fun cdv A outer s H E hr => ⟨w_with_limit, (dss_one (ds_ret (de_tup (des_cons (de_var 1) (des_cons (de_callTy call_tuple_of cd_tuple rfl T.b_tuple (by decide +kernel) (das_cons (da_of (de_lc (own := [("group", 2)]) rfl sc_with_limit.nd (blkOk_by (own := [("group", 2)]) (N := N_with_limit) (sc := defScope s_with_limit) (by decide +kernel)) (di_seq (de_ix ix_U opd_ix (da_var 0) (da_of de_int))) (fun _ _ _ _ _ => (dg_name 2 sc_with_limit.nd)) (fun _ _ _ _ _ => dts_nil) (fun _ _ _ _ _ => (de_callTy call_tuple_of cd_tuple rfl T.b_tuple (by decide +kernel) (das_cons (da_var 2) das_nil))))) das_nil)) des_nil))))), b_with_limit⟩)⟩, bnd_with_limit⟩
theorem ok_min_limit_for (T : Txt mg) (D : Df K mg "min_limit_for" s_min_limit_for) (G_possible_limits : Cal P w K mg base CX0 1 "_possible_limits" s_possible_limits p_possible_limits 1 S_possible_limits) (G_min_moves : Cal P w K mg base CX0 11 "min_moves" s_min_moves p_min_moves 3 S_min_moves) (G_is_reachable : Cal P w K mg base CX0 9 "is_reachable" s_is_reachable p_is_reachable 3 S_is_reachable) (G_with_limit : Cal P w K mg base CX0 1 "with_limit" s_with_limit p_with_limit 2 S_with_limit) : Cal P w K mg base CX0 12 "min_limit_for" s_min_limit_for p_min_limit_for 4 S_min_limit_for := by
  obtain ⟨f, fd, F, m⟩ := D
  exact ⟨⟨_, _, F, m, fn_data F sc_min_limit_for rfl (by decide) (fun cdv A outer s H E hr => ⟨w_min_limit_for, (dss_cons (ds_for PassesOwn.never rfl (di_seq (de_callC G_possible_limits (hr.mono (by omega)) rfl passE0 (das_cons (da_of (de_var 0)) das_nil))) (dg_name 4 sc_min_limit_for.nd) (dss_cons (ds_set (i := 5) sc_min_limit_for.nd rfl (Or.inl rfl) (de_callC G_with_limit (hr.mono (by omega)) rfl passE0 (das_cons (da_of (de_var 0)) (das_cons (da_of (de_var 4)) das_nil))))
  (dss_one (ds_if (DW.dt (dw_and (dt_val (de_callC G_is_reachable (hr.mono (by omega)) rfl passE0 (das_cons (da_of (de_var 5)) (das_cons (da_of (de_var 1)) (das_cons (da_of (de_var 2)) das_nil))))) (dw_and1 (dt_cmp op_le opd_le' (da_of (de_callC G_min_moves (hr.mono (by omega)) rfl passE0 (das_cons (da_of (de_var 5)) (das_cons (da_of (de_var 1)) (das_cons (da_of (de_var 2)) das_nil))))) (da_var 3))))) (dss_one (ds_ret (de_var 4))) dss_nil))))
  (dss_one (ds_ret de_non))), b_min_limit_for⟩)⟩, bnd_min_limit_for⟩
theorem ok_min_limit (T : Txt mg) (D : Df K mg "min_limit" s_min_limit) (G_possible_limits : Cal P w K mg base CX0 1 "_possible_limits" s_possible_limits p_possible_limits 1 S_possible_limits) (G_is_reachable : Cal P w K mg base CX0 9 "is_reachable" s_is_reachable p_is_reachable 3 S_is_reachable) (G_with_limit : Cal P w K mg base CX0 1 "with_limit" s_with_limit p_with_limit 2 S_with_limit) : Cal P w K mg base CX0 10 "min_limit" s_min_limit p_min_limit 3 S_min_limit := by
  obtain ⟨f, fd, F, m⟩ := D
  exact ⟨⟨_, _, F, m, fn_data F sc_min_limit rfl (by decide) (fun cdv A outer s H E hr => ⟨w_min_limit, (dss_cons (ds_for PassesOwn.never rfl (di_seq (de_callC G_possible_limits (hr.mono (by omega)) rfl passE0 (das_cons (da_of (de_var 0)) das_nil))) (dg_name 3 sc_min_limit.nd) (dss_one (ds_if (dt_val (de_callC G_is_reachable (hr.mono (by omega)) rfl passE0 (das_cons (da_of (de_callC G_with_limit (hr.mono (by omega)) rfl passE0 (das_cons (da_of (de_var 0)) (das_cons (da_of (de_var 3)) das_nil)))) (das_cons (da_of (de_var 1)) (das_cons (da_of (de_var 2)) das_nil))))) (dss_one (ds_ret (de_var 3))) dss_nil)))
  (dss_one (ds_ret de_non))), b_min_limit⟩)⟩, bnd_min_limit⟩
theorem ok_law_known_right (T : Txt mg) (D : Df K mg "_law_known_right" s_law_known_right) (G_law_same : Cal P w K mg base CX0 12 "_law_same" s_law_same p_law_same 2 S_law_same) (G_min_limit_for : Cal P w K mg base CX0 12 "min_limit_for" s_min_limit_for p_min_limit_for 4 S_min_limit_for) (G_min_limit : Cal P w K mg base CX0 10 "min_limit" s_min_limit p_min_limit 3 S_min_limit) : Cal P w K mg base CX0 13 "_law_known_right" s_law_known_right p_law_known_right 2 S_law_known_right := by
  obtain ⟨f, fd, F, m⟩ := D
  exact ⟨⟨_, _, F, m, fn_data F sc_law_known_right rfl (by decide) (fun cdv A outer s H E hr => ⟨w_law_known_right, (dss_cons (ds_set (i := 2) sc_law_known_right.nd rfl (Or.inl rfl) (de_tup (des_cons (de_tup (des_cons (de_op op_mulU opd_mulU (da_of de_int) (da_var 0)) (des_cons (de_var 1) des_nil))) (des_cons (de_tup (des_cons (de_op op_mulU opd_mulU (da_of de_int) (da_var 0)) (des_cons (de_var 1) des_nil))) (des_cons (de_tup (des_cons (de_op op_mulU opd_mulU (da_of de_int) (da_var 0)) (des_cons (de_var 1) des_nil))) des_nil)))))
  (dss_cons (ds_asg (de_tup (des_cons (de_tup (des_cons de_int (des_cons (de_var 2) des_nil))) (des_cons (de_tup (des_cons de_int (des_cons de_int (des_cons de_int des_nil)))) des_nil))) (dg_tup rfl (dgs_cons (dg_name 3 sc_law_known_right.nd) (dgs_cons (dg_name 4 sc_law_known_right.nd) dgs_nil))))
  (dss_cons (ds_set (i := 5) sc_law_known_right.nd rfl (Or.inr rfl) (de_lst (des_cons (de_tup (des_cons (de_var 1) (des_cons de_int (des_cons de_int des_nil)))) (des_cons (de_tup (des_cons de_int (des_cons (de_var 1) (des_cons de_int des_nil)))) (des_cons (de_tup (des_cons de_int (des_cons de_int (des_cons (de_var 1) des_nil)))) des_nil)))))
  (dss_cons (ds_setLc (i := 6) (own := [("_law_there", 9)]) rfl sc_law_known_right.nd rfl rfl (sw_true rfl rfl rfl (by decide +kernel)) (blkOk_by (own := [("_law_there", 9)]) (N := N_law_known_right) (sc := defScope s_law_known_right) (by decide +kernel)) (di_seq (de_op op_addU opd_addU (da_var 5) (da_of (de_lst (des_cons (de_tup (des_cons (de_var 1) (des_cons (de_var 1) (des_cons (de_var 1) des_nil)))) des_nil))))) (fun _ _ _ _ _ => (dg_name 9 sc_law_known_right.nd)) (fun _ _ _ _ _ => dts_nil) (fun _ _ _ _ _ => (de_callC G_min_limit (hr.mono (by omega)) rfl passE0 (das_cons (da_of (de_var 3)) (das_cons (da_of (de_var 4)) (das_cons (da_of (de_var 9)) das_nil))))))
  (dss_cons (ds_if (dt_not (dt_val (de_callC G_law_same (hr.mono (by omega)) rfl passE0 (das_cons (da_of (de_var 6)) (das_cons (da_of (de_lst (des_cons (de_op op_mulU opd_mulU (da_of de_int) (da_var 0)) (des_cons (de_op op_mulU opd_mulU (da_of de_int) (da_var 0)) (des_cons (de_op op_mulU opd_mulU (da_of de_int) (da_var 0)) (des_cons (de_op op_mulU opd_mulU (da_of de_int) (da_var 0)) des_nil)))))) das_nil))))) (dss_one (ds_ret de_bl)) dss_nil)
  (dss_cons (ds_setLc (i := 6) (own := [("_law_there", 9)]) rfl sc_law_known_right.nd rfl rfl (sw_true rfl rfl rfl (by decide +kernel)) (blkOk_by (own := [("_law_there", 9)]) (N := N_law_known_right) (sc := defScope s_law_known_right) (by decide +kernel)) (di_seq (de_tup (des_cons (de_ix ix_U opd_ix (da_var 5) (da_of de_int)) (des_cons (de_ix ix_U opd_ix (da_var 5) (da_of de_int)) (des_cons (de_var 4) (des_cons (de_ix ix_U opd_ix (da_var 5) (da_of de_int)) des_nil)))))) (fun _ _ _ _ _ => (dg_name 9 sc_law_known_right.nd)) (fun _ _ _ _ _ => dts_nil) (fun _ _ _ _ _ => (de_callC G_min_limit (hr.mono (by omega)) rfl passE0 (das_cons (da_of (de_var 3)) (das_cons (da_of (de_ix ix_U opd_ix (da_var 5) (da_of de_int))) (das_cons (da_of (de_var 9)) das_nil))))))
  (dss_cons (ds_if (dt_not (dt_val (de_callC G_law_same (hr.mono (by omega)) rfl passE0 (das_cons (da_of (de_var 6)) (das_cons (da_of (de_lst (des_cons de_non (des_cons (de_op op_mulU opd_mulU (da_of de_int) (da_var 0)) (des_cons de_non (des_cons de_int des_nil)))))) das_nil))))) (dss_one (ds_ret de_bl)) dss_nil)
  (dss_cons (ds_for PassesOwn.never rfl (di_seq (de_tup (des_cons (de_tup (des_cons (de_op op_mulU opd_mulU (da_of de_int) (da_var 1)) (des_cons de_int des_nil))) (des_cons (de_tup (des_cons (de_op op_mulU opd_mulU (da_of de_int) (da_var 1)) (des_cons de_int des_nil))) (des_cons (de_tup (des_cons (de_op op_sub opd_sub' (da_of (de_op op_mulU opd_mulU (da_of de_int) (da_var 1))) (da_of de_int)) (des_cons de_int des_nil))) (des_cons (de_tup (des_cons (de_op op_sub opd_sub' (da_of (de_op op_mulU opd_mulU (da_of de_int) (da_var 1))) (da_of de_int)) (des_cons de_int des_nil))) (des_cons (de_tup (des_cons (de_var 1) (des_cons de_int des_nil))) des_nil))))))) (dg_tup rfl (dgs_cons (dg_name 7 sc_law_known_right.nd) (dgs_cons (dg_name 8 sc_law_known_right.nd) dgs_nil))) (dss_one (ds_if (dt_not (dt_val (de_callC G_law_same (hr.mono (by omega)) rfl passE0 (das_cons (da_of (de_callC G_min_limit_for (hr.mono (by omega)) rfl passE0 (das_cons (da_of (de_var 3)) (das_cons (da_of (de_var 4)) (das_cons (da_of (de_ix ix_U opd_ix (da_var 5) (da_of de_int))) (das_cons (da_of (de_var 7)) das_nil)))))) (das_cons (da_of (de_op op_mulU opd_mulU (da_var 8) (da_var 0))) das_nil))))) (dss_one (ds_ret de_bl)) dss_nil)))
  (dss_cons (ds_set (i := 6) sc_law_known_right.nd rfl (Or.inl rfl) (de_lst (des_cons (de_callC G_min_limit_for (hr.mono (by omega)) rfl passE0 (das_cons (da_of (de_var 3)) (das_cons (da_of (de_var 4)) (das_cons (da_of (de_ix ix_U opd_ix (da_var 5) (da_of de_int))) (das_cons (da_of (de_op op_sub opd_sub' (da_var 1) (da_of de_int))) das_nil))))) (des_cons (de_callC G_min_limit_for (hr.mono (by omega)) rfl passE0 (das_cons (da_of (de_var 3)) (das_cons (da_of (de_var 4)) (das_cons (da_of (de_ix ix_U opd_ix (da_var 5) (da_of de_int))) (das_cons (da_of (de_var 1)) das_nil))))) des_nil))))
  (dss_one (ds_ret (de_callC G_law_same (hr.mono (by omega)) rfl passE0 (das_cons (da_of (de_op op_addU opd_addU (da_var 6) (da_of (de_lst (des_cons (de_callC G_min_limit_for (hr.mono (by omega)) rfl passE0 (das_cons (da_of (de_var 3)) (das_cons (da_of (de_var 4)) (das_cons (da_of (de_var 4)) (das_cons (da_of de_int) das_nil))))) des_nil))))) (das_cons (da_of (de_lst (des_cons de_non (des_cons (de_op op_mulU opd_mulU (da_of de_int) (da_var 0)) (des_cons de_int des_nil))))) das_nil)))))))))))))), b_law_known_right⟩)⟩, bnd_law_known_right⟩
theorem ok_law_draw (T : Txt mg) (D : Df K mg "_law_draw" s_law_draw) : Cal P w K mg base CX0 2 "_law_draw" s_law_draw p_law_draw 2 S_law_draw := by
  obtain ⟨f, fd, F, m⟩ := D
  have G_law_draw : Cal P w K mg base CX0 0 "_law_draw" s_law_draw p_law_draw 2 (fun _ _ _ => False) := Cal.never F m bnd_law_draw
  have G1 : Cal P w K mg base CX0 1 "_law_draw" s_law_draw p_law_draw 2 S_draw1 := ⟨⟨_, _, F, m, fn_data F sc_law_draw rfl (by decide) (fun cdv A outer s H E hr => ⟨w_law_draw (fun _ _ _ => False), (dss_cons (ds_if (dt_cmp op_gt opd_gt' (da_of (de_ix ix_U opd_ix (da_var 0) (da_of de_int))) (da_of de_int)) (dss_cons (ds_asg (de_callB call_divmodW cd_divmod rfl T.b_divmod (by decide +kernel) (das_cons (da_of (de_ix ix_U opd_ix (da_var 0) (da_of de_int))) (das_cons (da_var 1) das_nil))) (dg_tup rfl (dgs_cons (dg_sub (E := E0s) 0 (da_of de_int)) (dgs_cons (dg_name 2 sc_law_draw.nd) dgs_nil))))
  (dss_one (ds_ret (de_var 2)))) dss_nil)
  (dss_cons (ds_if (dt_cmp op_gt opd_gt' (da_var 1) (da_of (de_op op_pow opd_pow' (da_of de_int) (da_of de_int)))) (dss_one (ds_ret (de_op op_mod opd_mod' (da_of (de_op op_addU opd_addU (da_of (de_callC G_law_draw (hr.mono (by omega)) rfl passE0 (das_cons (da_var 0) (das_cons (da_of (de_op op_pow opd_pow' (da_of de_int) (da_of de_int))) das_nil)))) (da_of (de_op op_mulU opd_mulU (da_of (de_op op_pow opd_pow' (da_of de_int) (da_of de_int))) (da_of (de_callC G_law_draw (hr.mono (by omega)) rfl passE0 (das_cons (da_var 0) (das_cons (da_of (de_op op_addU opd_addU (da_of (de_op op_fdivW opd_fdivW' (da_of (de_op op_sub opd_sub' (da_var 1) (da_of de_int))) (da_of (de_op op_pow opd_pow' (da_of de_int) (da_of de_int))))) (da_of de_int))) das_nil)))))))) (da_var 1)))) dss_nil)
  (dss_cons (ds_asg (de_op op_addU opd_addU (da_of (de_ix ix_U opd_ix (da_var 0) (da_of de_int))) (da_of de_int)) (dg_sub (E := E0s) 0 (da_of de_int)))
  (dss_cons (ds_set (i := 3) sc_law_draw.nd rfl (Or.inl rfl) (de_op op_addU opd_addU (da_of de_int) (da_of (de_op op_mulU opd_mulU (da_of (de_ix ix_U opd_ix (da_var 0) (da_of de_int))) (da_of (de_ix ix_U opd_ix (da_var 0) (da_of de_int)))))))
  (dss_cons (ds_set (i := 4) sc_law_draw.nd rfl (Or.inl rfl) (de_op op_mod opd_mod' (da_of (de_op op_mulU opd_mulU (da_of (de_op op_addU opd_addU (da_of (de_ix ix_U opd_ix (da_var 0) (da_of de_int))) (da_of (de_op op_mulU opd_mulU (da_of de_int) (da_of (de_ix ix_U opd_ix (da_var 0) (da_of de_int))))))) (da_var 3))) (da_of de_int)))
  (dss_cons (ds_set (i := 5) sc_law_draw.nd rfl (Or.inl rfl) (de_op op_mod opd_mod' (da_of (de_op op_addU opd_addU (da_of (de_op op_mulU opd_mulU (da_var 4) (da_of (de_op op_addU opd_addU (da_of (de_op op_mod opd_mod' (da_var 4) (da_of de_int))) (da_of de_int))))) (da_of (de_ix ix_U opd_ix (da_var 0) (da_of de_int))))) (da_of de_int)))
  (dss_one (ds_ret (de_op op_mod opd_mod' (da_of (de_op op_fdivW opd_fdivW' (da_of (de_op op_mod opd_mod' (da_of (de_op op_mulU opd_mulU (da_var 5) (da_of (de_op op_addU opd_addU (da_of (de_op op_mod opd_mod' (da_var 5) (da_of de_int))) (da_of de_int))))) (da_of de_int))) (da_of de_int))) (da_var 1)))))))))), (b_draw1 _)⟩)⟩, bnd_law_draw⟩
  clear G_law_draw
  have G_law_draw := G1
  exact ⟨⟨_, _, F, m, fn_data F sc_law_draw rfl (by decide) (fun cdv A outer s H E hr => ⟨w_law_draw S_draw1, (dss_cons (ds_if (dt_cmp op_gt opd_gt' (da_of (de_ix ix_U opd_ix (da_var 0) (da_of de_int))) (da_of de_int)) (dss_cons (ds_asg (de_callB call_divmodW cd_divmod rfl T.b_divmod (by decide +kernel) (das_cons (da_of (de_ix ix_U opd_ix (da_var 0) (da_of de_int))) (das_cons (da_var 1) das_nil))) (dg_tup rfl (dgs_cons (dg_sub (E := E0s) 0 (da_of de_int)) (dgs_cons (dg_name 2 sc_law_draw.nd) dgs_nil))))
  (dss_one (ds_ret (de_var 2)))) dss_nil)
  (dss_cons (ds_if (dt_cmp op_gt opd_gt' (da_var 1) (da_of (de_op op_pow opd_pow' (da_of de_int) (da_of de_int)))) (dss_one (ds_ret (de_op op_mod opd_mod' (da_of (de_op op_addU opd_addU (da_of (de_callC G_law_draw (hr.mono (by omega)) rfl passE0 (das_cons (da_var 0) (das_cons (da_of (de_op op_pow opd_pow' (da_of de_int) (da_of de_int))) das_nil)))) (da_of (de_op op_mulU opd_mulU (da_of (de_op op_pow opd_pow' (da_of de_int) (da_of de_int))) (da_of (de_callC G_law_draw (hr.mono (by omega)) rfl passE0 (das_cons (da_var 0) (das_cons (da_of (de_op op_addU opd_addU (da_of (de_op op_fdivW opd_fdivW' (da_of (de_op op_sub opd_sub' (da_var 1) (da_of de_int))) (da_of (de_op op_pow opd_pow' (da_of de_int) (da_of de_int))))) (da_of de_int))) das_nil)))))))) (da_var 1)))) dss_nil)
  (dss_cons (ds_asg (de_op op_addU opd_addU (da_of (de_ix ix_U opd_ix (da_var 0) (da_of de_int))) (da_of de_int)) (dg_sub (E := E0s) 0 (da_of de_int)))
  (dss_cons (ds_set (i := 3) sc_law_draw.nd rfl (Or.inl rfl) (de_op op_addU opd_addU (da_of de_int) (da_of (de_op op_mulU opd_mulU (da_of (de_ix ix_U opd_ix (da_var 0) (da_of de_int))) (da_of (de_ix ix_U opd_ix (da_var 0) (da_of de_int)))))))
  (dss_cons (ds_set (i := 4) sc_law_draw.nd rfl (Or.inl rfl) (de_op op_mod opd_mod' (da_of (de_op op_mulU opd_mulU (da_of (de_op op_addU opd_addU (da_of (de_ix ix_U opd_ix (da_var 0) (da_of de_int))) (da_of (de_op op_mulU opd_mulU (da_of de_int) (da_of (de_ix ix_U opd_ix (da_var 0) (da_of de_int))))))) (da_var 3))) (da_of de_int)))
  (dss_cons (ds_set (i := 5) sc_law_draw.nd rfl (Or.inl rfl) (de_op op_mod opd_mod' (da_of (de_op op_addU opd_addU (da_of (de_op op_mulU opd_mulU (da_var 4) (da_of (de_op op_addU opd_addU (da_of (de_op op_mod opd_mod' (da_var 4) (da_of de_int))) (da_of de_int))))) (da_of (de_ix ix_U opd_ix (da_var 0) (da_of de_int))))) (da_of de_int)))
  (dss_one (ds_ret (de_op op_mod opd_mod' (da_of (de_op op_fdivW opd_fdivW' (da_of (de_op op_mod opd_mod' (da_of (de_op op_mulU opd_mulU (da_var 5) (da_of (de_op op_addU opd_addU (da_of (de_op op_mod opd_mod' (da_var 5) (da_of de_int))) (da_of de_int))))) (da_of de_int))) (da_of de_int))) (da_var 1)))))))))), b_law_draw⟩)⟩, bnd_law_draw⟩
theorem ok_law_pick (T : Txt mg) (D : Df K mg "_law_pick" s_law_pick) (G_law_draw : Cal P w K mg base CX0 2 "_law_draw" s_law_draw p_law_draw 2 S_law_draw) : Cal P w K mg base CX0 3 "_law_pick" s_law_pick p_law_pick 2 S_law_pick := by
  obtain ⟨f, fd, F, m⟩ := D
  exact ⟨⟨_, _, F, m, fn_data F sc_law_pick rfl (by decide) (fun cdv A outer s H E hr => ⟨w_law_pick, (dss_one (ds_ret (de_ix ix_U opd_ix (da_var 1) (da_of (de_callC G_law_draw (hr.mono (by omega)) rfl passE0 (das_cons (da_var 0) (das_cons (da_of (de_callB call_len_seq cd_len rfl T.b_len (by decide +kernel) (das_cons (da_var 1) das_nil))) das_nil))))))), b_law_pick⟩)⟩, bnd_law_pick⟩
theorem ok_law_stream (T : Txt mg) (D : Df K mg "_law_stream" s_law_stream)  : Cal P w K mg base CX0 1 "_law_stream" s_law_stream p_law_stream 2 S_law_stream := by
  obtain ⟨f, fd, F, m⟩ := D
  exact ⟨⟨_, _, F, m, fn_data F sc_law_stream rfl (by decide) (fun cdv A outer s H E hr => ⟨w_law_stream, (dss_cons (ds_set (i := 2) sc_law_stream.nd rfl (Or.inl rfl) (de_if (dt_cmp op_lt opd_lt' (da_var 1) (da_of (de_callB call_len_seq cd_len rfl T.b_len (by decide +kernel) (das_cons (da_var 0) das_nil)))) (de_ix ix_U opd_ix (da_var 0) (da_var 1)) de_int))
  (dss_one (ds_ret (de_lst (des_cons (de_op op_mulU opd_mulU (da_of (de_callB call_abs cd_abs rfl T.b_abs (by decide +kernel) (das_cons (da_var 2) das_nil))) (da_of (de_callTy call_int1 cd_int rfl T.b_int (by decide +kernel) (das_cons (da_of (de_cmp op_ge opd_ge' (da_of (de_callB call_abs cd_abs rfl T.b_abs (by decide +kernel) (das_cons (da_var 2) das_nil))) (da_of (de_op op_pow opd_pow' (da_of de_int) (da_of de_int))))) das_nil)))) (des_cons (de_op op_mod opd_mod' (da_of (de_op op_mulU opd_mulU (da_of (de_op op_addU opd_addU (da_of (de_op op_addU opd_addU (da_of (de_op op_mod opd_mod' (da_var 2) (da_of de_int))) (da_of (de_op op_mulU opd_mulU (da_of de_int) (da_var 1))))) (da_of de_int))) (da_of de_int))) (da_of de_int)) (des_cons de_int des_nil))))))), b_law_stream⟩)⟩, bnd_law_stream⟩
theorem ok_law_fold (T : Txt mg) (D : Df K mg "_law_fold" s_law_fold)  : Cal P w K mg base CX0 1 "_law_fold" s_law_fold p_law_fold 2 S_law_fold := by
  obtain ⟨f, fd, F, m⟩ := D
  exact ⟨⟨_, _, F, m, fn_data F sc_law_fold rfl (by decide) (fun cdv A outer s H E hr => ⟨w_law_fold, (dss_cons (ds_set (i := 2) sc_law_fold.nd rfl (Or.inl rfl) (de_callTy call_list_of cd_list rfl T.b_list (by decide +kernel) (das_cons (da_of (de_sl (da_var 0) dp_none (dp_some (da_var 1)))) das_nil)))
  (dss_cons (ds_for PassesOwn.never rfl (di_enum rfl T.b_enumerate (de_sl (da_var 0) (dp_some (da_var 1)) (dp_some (da_of de_int)))) (dg_tup rfl (dgs_cons (dg_name 3 sc_law_fold.nd) (dgs_cons (dg_name 4 sc_law_fold.nd) dgs_nil))) (dss_one (ds_asg (de_op op_addU opd_addU (da_of (de_ix ix_U opd_ix (da_var 2) (da_of (de_op op_mod opd_mod' (da_var 3) (da_var 1))))) (da_of (de_op op_mulU opd_mulU (da_var 4) (da_of (de_op op_addU opd_addU (da_var 3) (da_of de_int)))))) (dg_sub (E := E0s) 2 (da_of (de_op op_mod opd_mod' (da_var 3) (da_var 1)))))))
  (dss_one (ds_ret (de_var 2))))), b_law_fold⟩)⟩, bnd_law_fold⟩
end
theorem dq_ints {H : Hp} : ∀ ns : List Int, DqAll H (ns.map V.int) (ilD ns)
  | [] => .nil
  | n :: ns => .cons (.int _) (dq_ints ns)
theorem bits_abs {z : Int} (h : Builtin.Int.intBits z ≤ 1048576) : z.natAbs ≤ 2 ^ 1048576 := by
  unfold Builtin.Int.intBits at h
  split at h
  · rename_i c
    have : z = 0 := by simpa using c
    rw [this]; exact Nat.zero_le _
  · exact Nat.le_of_lt (Nat.lt_of_lt_of_le Nat.lt_log2_self (Nat.pow_le_pow_right (by decide) h))
theorem big_ok : 2 ^ 1048576 * 5000 < 2 ^ bigE := by
  have e : (bigE : Nat) = 1048576 + 51424 := rfl
  rw [e, Nat.pow_add]
  exact Nat.mul_lt_mul_of_pos_left (Nat.lt_of_lt_of_le (by decide : 5000 < 2 ^ 13) (Nat.pow_le_pow_right (by decide) (by decide))) (Nat.pow_pos (by decide))
theorem sp_law (H : Hp) (a : Addr) (ns : List Int) (hl : ns.length ≤ 63) (hb : ∀ z ∈ ns, Builtin.Int.intBits z ≤ 1048576) (hS : Rd H a (.lst (ns.map V.int))) : spOf 1 S_law [.ref a] H (fun v _ => v = .bl true) fun _ _ _ => False := by
  have e := frz_nil0 H
  refine ⟨[.d (.list (ilD ns))], [], [], fun r _ => r = .d (.bool true), fun _ _ => False, rfl, Nat.zero_le _, ⟨?_, trivial⟩, (fun _ m => (List.not_mem_nil m).elim), (fun _ m => (List.not_mem_nil m).elim), ⟨ns, 2 ^ 1048576, rfl, hl, fun z m => bits_abs (hb z m), big_ok, rfl⟩, fun r v ys H' ret _ e => ?_, fun _ _ _ _ _ _ z => z⟩
  · rw [e]; exact .lst hS (dq_ints ns)
  · subst e
    obtain ⟨d, _⟩ := ret
    cases d
    rfl
theorem all_mk {P : Program} {w : World} {K : PySem.W.Frag} {h : Heap} {mg : Str → Option Value} {fa f3 : Addr} (X : K.In h) (G : h.Ns mainGlobals mg) (hfa : mg "law" = some (.ref fa))
    {od3 an3 : Option Addr} {sl3 : Array (Option Value)} {oc3 kV3 dc3 pm3 cd3 ct3 : Value} (D_law_same : Df K mg "_law_same" s_law_same) (D_possible_limits : Df K mg "_possible_limits" s_possible_limits) (D_total_count : Df K mg "total_count" s_total_count) (D_weight_of : Df K mg "weight_of" s_weight_of) (D_is_move : Df K mg "is_move" s_is_move) (D_starts_ungrounded : Df K mg "starts_ungrounded" s_starts_ungrounded) (D_segments : Df K mg "segments" s_segments) (D_suffix_counts : Df K mg "suffix_counts" s_suffix_counts) (D_count_pairs : Df K mg "count_pairs" s_count_pairs) (D_obstructions : Df K mg "_obstructions" s_obstructions) (D_obstruction : Df K mg "obstruction" s_obstruction) (D_crossings : Df K mg "crossings" s_crossings) (D_take_first : Df K mg "_take_first" s_take_first) (D_fewest_moves : Df K mg "_fewest_moves" s_fewest_moves) (D_min_moves : Df K mg "min_moves" s_min_moves) (D_is_reachable : Df K mg "is_reachable" s_is_reachable) (D_with_limit : Df K mg "with_limit" s_with_limit) (D_min_limit_for : Df K mg "min_limit_for" s_min_limit_for) (D_min_limit : Df K mg "min_limit" s_min_limit) (D_law_known_right : Df K mg "_law_known_right" s_law_known_right) (D_law_draw : Df K mg "_law_draw" s_law_draw) (D_law_pick : Df K mg "_law_pick" s_law_pick) (D_law_stream : Df K mg "_law_stream" s_law_stream) (D_law_fold : Df K mg "_law_fold" s_law_fold) (z_abs : PySem.W.nsIn K mainGlobals "abs" = some none) (z_all : PySem.W.nsIn K mainGlobals "all" = some none) (z_bool : PySem.W.nsIn K mainGlobals "bool" = some none) (z_divmod : PySem.W.nsIn K mainGlobals "divmod" = some none) (z_enumerate : PySem.W.nsIn K mainGlobals "enumerate" = some none) (z_int : PySem.W.nsIn K mainGlobals "int" = some none) (z_isinstance : PySem.W.nsIn K mainGlobals "isinstance" = some none) (z_len : PySem.W.nsIn K mainGlobals "len" = some none) (z_list : PySem.W.nsIn K mainGlobals "list" = some none) (z_max : PySem.W.nsIn K mainGlobals "max" = some none) (z_min : PySem.W.nsIn K mainGlobals "min" = some none) (z_range : PySem.W.nsIn K mainGlobals "range" = some none) (z_sorted : PySem.W.nsIn K mainGlobals "sorted" = some none) (z_str : PySem.W.nsIn K mainGlobals "str" = some none) (z_sum : PySem.W.nsIn K mainGlobals "sum" = some none) (z_tuple : PySem.W.nsIn K mainGlobals "tuple" = some none) (z_zip : PySem.W.nsIn K mainGlobals "zip" = some none)
    (a3 : PySem.W.nsIn K mainGlobals "law" = some (some (.ref f3))) (l3 : K.lookup f3 = some ⟨oc3, od3, .func (PySem.W.fnOf "law" "law" (defArgs s_law) (defBody s_law) (defScope s_law) .none kV3 dc3 pm3 an3 cd3 ct3), sl3⟩) (c3 : PySem.W.codeIn K cd3 "law" = true) (k3 : PySem.W.keepIn K (.ref f3) = true) :
    ∃ fd : FuncData, (∀ (s : Shared) (v : Value), BindsTo s fd ⟨[v], []⟩ [("_law_script", v)]) ∧ ∀ base : Heap, K.In base → base.Ns mainGlobals mg → FnG P w K mg base CX0 14 fa fd ["_law_script"] (spOf 1 S_law) := by
  have e := hfa.symm.trans (PySem.W.mg_of X G a3)
  cases e
  have F := fun_mk (st := s_law) l3 c3 k3
  have T : Txt mg := ⟨PySem.W.mg_none_of X G z_abs, PySem.W.mg_none_of X G z_all, PySem.W.mg_none_of X G z_bool, PySem.W.mg_none_of X G z_divmod, PySem.W.mg_none_of X G z_enumerate, PySem.W.mg_none_of X G z_int, PySem.W.mg_none_of X G z_isinstance, PySem.W.mg_none_of X G z_len, PySem.W.mg_none_of X G z_list, PySem.W.mg_none_of X G z_max, PySem.W.mg_none_of X G z_min, PySem.W.mg_none_of X G z_range, PySem.W.mg_none_of X G z_sorted, PySem.W.mg_none_of X G z_str, PySem.W.mg_none_of X G z_sum, PySem.W.mg_none_of X G z_tuple, PySem.W.mg_none_of X G z_zip⟩
  refine ⟨PySem.W.fnOf "law" "law" (defArgs s_law) (defBody s_law) (defScope s_law) .none kV3 dc3 pm3 an3 cd3 ct3, fun s v => .of_eq rfl, fun base _ _ => ?_⟩
  have G_law_same := ok_law_same (P := P) (w := w) (base := base) T D_law_same  12 (by decide)
  have G_possible_limits := ok_possible_limits (P := P) (w := w) (base := base) T D_possible_limits 
  have G_total_count := ok_total_count (P := P) (w := w) (base := base) T D_total_count 
  have G_weight_of := ok_weight_of (P := P) (w := w) (base := base) T D_weight_of 
  have G_is_move := ok_is_move (P := P) (w := w) (base := base) T D_is_move G_weight_of
  have G_starts_ungrounded := ok_starts_ungrounded (P := P) (w := w) (base := base) T D_starts_ungrounded G_is_move
  have G_segments := ok_segments (P := P) (w := w) (base := base) T D_segments G_starts_ungrounded
  have G_suffix_counts := ok_suffix_counts (P := P) (w := w) (base := base) T D_suffix_counts G_segments
  have G_count_pairs := ok_count_pairs (P := P) (w := w) (base := base) T D_count_pairs G_suffix_counts
  have G_obstructions := ok_obstructions (P := P) (w := w) (base := base) T D_obstructions G_count_pairs G_starts_ungrounded
  have G_obstruction := ok_obstruction (P := P) (w := w) (base := base) T D_obstruction G_obstructions
  have G_crossings := ok_crossings (P := P) (w := w) (base := base) T D_crossings G_count_pairs G_obstruction
  have G_take_first := ok_take_first (P := P) (w := w) (base := base) T D_take_first 
  have G_fewest_moves := ok_fewest_moves (P := P) (w := w) (base := base) T D_fewest_moves G_crossings G_take_first G_is_move
  have G_min_moves := ok_min_moves (P := P) (w := w) (base := base) T D_min_moves G_total_count G_fewest_moves
  have G_is_reachable := ok_is_reachable (P := P) (w := w) (base := base) T D_is_reachable G_obstruction
  have G_with_limit := ok_with_limit (P := P) (w := w) (base := base) T D_with_limit 
  have G_min_limit_for := ok_min_limit_for (P := P) (w := w) (base := base) T D_min_limit_for G_possible_limits G_min_moves G_is_reachable G_with_limit
  have G_min_limit := ok_min_limit (P := P) (w := w) (base := base) T D_min_limit G_possible_limits G_is_reachable G_with_limit
  have G_law_known_right := ok_law_known_right (P := P) (w := w) (base := base) T D_law_known_right G_law_same G_min_limit_for G_min_limit
  have G_law_draw := ok_law_draw (P := P) (w := w) (base := base) T D_law_draw 
  have G_law_pick := ok_law_pick (P := P) (w := w) (base := base) T D_law_pick G_law_draw
  have G_law_stream := ok_law_stream (P := P) (w := w) (base := base) T D_law_stream 
  have G_law_fold := ok_law_fold (P := P) (w := w) (base := base) T D_law_fold 
  exact fn_data F sc_law rfl (by decide) (fun cdv A outer s H E hr => ⟨w_law, (dss_cons (ds_set (i := 1) sc_law.nd rfl (Or.inl rfl) (de_callC G_law_fold (hr.mono (by omega)) rfl passE0 (das_cons (da_of (de_var 0)) (das_cons (da_of de_int) das_nil))))
  (dss_cons (ds_for PassesOwn.never rfl (di_range1 rfl T.b_range (da_of (de_callB (call_max2 rfl) cd_max2 rfl T.b_max (by decide +kernel) (das_cons (da_of de_int) (das_cons (da_of (de_callB call_len_seq cd_len rfl T.b_len (by decide +kernel) (das_cons (da_var 1) das_nil))) das_nil))))) (dg_name 2 sc_law.nd) (dss_cons (ds_set (i := 3) sc_law.nd rfl (Or.inl rfl) (de_callC G_law_stream (hr.mono (by omega)) rfl passE0 (das_cons (da_of (de_var 1)) (das_cons (da_of (de_var 2)) das_nil))))
  (dss_cons (ds_par (i := 4) (j := 5) rfl sc_law.nd rfl rfl (by decide) rfl rfl (drs_cons (de_op op_addU opd_addU (da_of de_int) (da_of (de_callC G_law_draw (hr.mono (by omega)) rfl passE0 (das_cons (da_var 3) (das_cons (da_of (de_op op_pow opd_pow' (da_of de_int) (da_of de_int))) das_nil))))) (drs_cons (de_op op_addU opd_addU (da_of de_int) (da_of (de_callC G_law_draw (hr.mono (by omega)) rfl passE0 (das_cons (da_var 3) (das_cons (da_of (de_callC G_law_pick (hr.mono (by omega)) rfl passE0 (das_cons (da_var 3) (das_cons (da_of (de_lst (des_cons de_int (des_cons (de_op op_pow opd_pow' (da_of de_int) (da_of de_int)) des_nil)))) das_nil)))) das_nil))))) drs_nil)) rfl)
  (dss_one (ds_if (dt_not (dt_val (de_callC G_law_known_right (hr.mono (by omega)) rfl passE0 (das_cons (da_of (de_var 4)) (das_cons (da_of (de_var 5)) das_nil))))) (dss_one (ds_ret de_bl)) dss_nil)))))
  (dss_one (ds_ret de_bl)))), b_law⟩)
theorem walk {l : PySem.W.OpenLaw} {q : Program} {loose : List Str} {XP : (Str → Option Value) → Heap → Prop} {YP : World → Heap → Prop} {d : DefRec} {K : Params → PySem.W.Frag} (hn : l.most = some 63) (hdf : d.params.defaults = [])
    (hY : ∀ (w : World) (h : Heap), YP w h → (K w.params).In h) (hK : ∀ p, noList (K p) = true)
    (F : ∀ (w : World) (mg : Str → Option Value) (fa : Addr) (h : Heap), (K w.params).In h → h.Ns mainGlobals mg → mg d.name = some (.ref fa) →
      ∃ fd : FuncData, (∀ (s : Shared) (u : Value), BindsTo s fd ⟨[u], []⟩ [("_law_script", u)]) ∧ ∀ base : Heap, (K w.params).In base → base.Ns mainGlobals mg → FnG l.prog w (K w.params) mg base CX0 14 fa fd ["_law_script"] (spOf 1 S_law)) :
    PySem.W.WalkO q loose XP YP l.row.toRowW d [] (fun f vs => PySem.call f vs) :=
  DL.walkG (k := 14) (x := "_law_script") (sp := spOf 1 S_law) hn hdf ⟨rfl, by decide, by decide⟩ hY hK F (fun H a ns hl hb hS => sp_law H a ns hl hb hS)
end K16
end LW
open PySem PySem.W PyProof.Rows
set_option maxRecDepth 100000 in
set_option maxHeartbeats 0 in
theorem PySem.Challenge.cw_wellfolk_k16_limits_example_holds : PySem.Challenge.rw_wellfolk_k16_limits_example.Holds := by
  w_on; o_law; k_head; (case hw => w_witness2)
  k_fill
  refine LW.K16.walk (l := PySem.Challenge.rw_wellfolk_k16_limits_example) rfl rfl (fun w h Y => PySem.W.kIn_of Y) ?L ?F
  case L => exact fun p => rfl
  case F =>
    intro w mg fa h KX G hmg
    refine' LW.K16.all_mk KX G hmg ?D_law_same ?D_possible_limits ?D_total_count ?D_weight_of ?D_is_move ?D_starts_ungrounded ?D_segments ?D_suffix_counts ?D_count_pairs ?D_obstructions ?D_obstruction ?D_crossings ?D_take_first ?D_fewest_moves ?D_min_moves ?D_is_reachable ?D_with_limit ?D_min_limit_for ?D_min_limit ?D_law_known_right ?D_law_draw ?D_law_pick ?D_law_stream ?D_law_fold ?z_abs ?z_all ?z_bool ?z_divmod ?z_enumerate ?z_int ?z_isinstance ?z_len ?z_list ?z_max ?z_min ?z_range ?z_sorted ?z_str ?z_sum ?z_tuple ?z_zip ?a3 ?l3 ?c3 ?k3
    (case D_law_same => (refine' LW.K16.df_mk KX G ?a ?l ?c ?k; (case a => k_is); (case l => k_is); (case c => k_is); (case k => k_is)))
    (case D_possible_limits => (refine' LW.K16.df_mk KX G ?a ?l ?c ?k; (case a => k_is); (case l => k_is); (case c => k_is); (case k => k_is)))
    (case D_total_count => (refine' LW.K16.df_mk KX G ?a ?l ?c ?k; (case a => k_is); (case l => k_is); (case c => k_is); (case k => k_is)))
    (case D_weight_of => (refine' LW.K16.df_mk KX G ?a ?l ?c ?k; (case a => k_is); (case l => k_is); (case c => k_is); (case k => k_is)))
    (case D_is_move => (refine' LW.K16.df_mk KX G ?a ?l ?c ?k; (case a => k_is); (case l => k_is); (case c => k_is); (case k => k_is)))
    (case D_starts_ungrounded => (refine' LW.K16.df_mk KX G ?a ?l ?c ?k; (case a => k_is); (case l => k_is); (case c => k_is); (case k => k_is)))
    (case D_segments => (refine' LW.K16.df_mk KX G ?a ?l ?c ?k; (case a => k_is); (case l => k_is); (case c => k_is); (case k => k_is)))
    (case D_suffix_counts => (refine' LW.K16.df_mk KX G ?a ?l ?c ?k; (case a => k_is); (case l => k_is); (case c => k_is); (case k => k_is)))
    (case D_count_pairs => (refine' LW.K16.df_mk KX G ?a ?l ?c ?k; (case a => k_is); (case l => k_is); (case c => k_is); (case k => k_is)))
    (case D_obstructions => (refine' LW.K16.df_mk KX G ?a ?l ?c ?k; (case a => k_is); (case l => k_is); (case c => k_is); (case k => k_is)))
    (case D_obstruction => (refine' LW.K16.df_mk KX G ?a ?l ?c ?k; (case a => k_is); (case l => k_is); (case c => k_is); (case k => k_is)))
    (case D_crossings => (refine' LW.K16.df_mk KX G ?a ?l ?c ?k; (case a => k_is); (case l => k_is); (case c => k_is); (case k => k_is)))
    (case D_take_first => (refine' LW.K16.df_mk KX G ?a ?l ?c ?k; (case a => k_is); (case l => k_is); (case c => k_is); (case k => k_is)))
    (case D_fewest_moves => (refine' LW.K16.df_mk KX G ?a ?l ?c ?k; (case a => k_is); (case l => k_is); (case c => k_is); (case k => k_is)))
    (case D_min_moves => (refine' LW.K16.df_mk KX G ?a ?l ?c ?k; (case a => k_is); (case l => k_is); (case c => k_is); (case k => k_is)))
    (case D_is_reachable => (refine' LW.K16.df_mk KX G ?a ?l ?c ?k; (case a => k_is); (case l => k_is); (case c => k_is); (case k => k_is)))
    (case D_with_limit => (refine' LW.K16.df_mk KX G ?a ?l ?c ?k; (case a => k_is); (case l => k_is); (case c => k_is); (case k => k_is)))
    (case D_min_limit_for => (refine' LW.K16.df_mk KX G ?a ?l ?c ?k; (case a => k_is); (case l => k_is); (case c => k_is); (case k => k_is)))
    (case D_min_limit => (refine' LW.K16.df_mk KX G ?a ?l ?c ?k; (case a => k_is); (case l => k_is); (case c => k_is); (case k => k_is)))
    (case D_law_known_right => (refine' LW.K16.df_mk KX G ?a ?l ?c ?k; (case a => k_is); (case l => k_is); (case c => k_is); (case k => k_is)))
    (case D_law_draw => (refine' LW.K16.df_mk KX G ?a ?l ?c ?k; (case a => k_is); (case l => k_is); (case c => k_is); (case k => k_is)))
    (case D_law_pick => (refine' LW.K16.df_mk KX G ?a ?l ?c ?k; (case a => k_is); (case l => k_is); (case c => k_is); (case k => k_is)))
    (case D_law_stream => (refine' LW.K16.df_mk KX G ?a ?l ?c ?k; (case a => k_is); (case l => k_is); (case c => k_is); (case k => k_is)))
    (case D_law_fold => (refine' LW.K16.df_mk KX G ?a ?l ?c ?k; (case a => k_is); (case l => k_is); (case c => k_is); (case k => k_is)))
    (case z_abs => k_is)
    (case z_all => k_is)
    (case z_bool => k_is)
    (case z_divmod => k_is)
    (case z_enumerate => k_is)
    (case z_int => k_is)
    (case z_isinstance => k_is)
    (case z_len => k_is)
    (case z_list => k_is)
    (case z_max => k_is)
    (case z_min => k_is)
    (case z_range => k_is)
    (case z_sorted => k_is)
    (case z_str => k_is)
    (case z_sum => k_is)
    (case z_tuple => k_is)
    (case z_zip => k_is)
    (case a3 => k_is); (case l3 => k_is); (case c3 => k_is); (case k3 => k_is)
