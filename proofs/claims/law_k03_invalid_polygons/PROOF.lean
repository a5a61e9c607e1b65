import PyProof.Rows.All
import Wide.All
import OpenK.AllK
import Wide.FinOn
import HandS.ForMost
import HandS.Wide
import HandS.Star
import HandS.ClsMeth
import HandS.Property
import HandS.OwnEq
import HandS.TupAny
import HandS.Zip
import HandS.FStr
import HandS.Walk
import HandS.Evl
import HandS.TupMul
import HandS.Gcd
import KE.GoesMore
import KE.KDictZip
import HandS.Style
import HandS.IsInst
import HandS.MethStar
import HandS.Defaults
import HandS.MakeKw
import KE.KRevSl
import PyProof.ReprRoads
import KE.KExcSuper
import HandS.ExcInit
import HandS.FStrTup
import KE.KExcIs
import HandS.ExcField
import HandS.ExcIs
import HandS.WordsExc
import PySem.Challenge.RW_walkagon_k03_invalid_polygons
import KE.IntTextLaws
import HandS.Deep
set_option Elab.async false
set_option linter.all false
set_option maxRecDepth 100000
set_option maxHeartbeats 4000000
/-! ## WkA -/
/-! Data: what the values of a run are, apart from where they stand; mutable lists and objects by their addresses. -/
namespace Wk
open PySem L2 Evl

inductive Dt where
  | non
  | bl (b : Bool)
  | int (i : Int)
  | str (x : Str)
  | lst (xs : List Dt)
  | frl (xs : List Dt)
  | tup (xs : List Dt)
  | obj (C : Addr) (fs : List (Str × Dt))
  | raw (v : V)
  | exc (a dd : Addr) (fs : List (Str × Dt))

inductive Cell where
  | lst (xs : List Dt)
  | ins (C : Addr) (fs : List (Str × Dt))

abbrev Mm := Addr → Option Cell
abbrev Rho := List (Option Dt)
def put (M : Mm) (a : Addr) (c : Cell) : Mm := fun b => if b = a then some c else M b
def del (M : Mm) (a : Addr) : Mm := fun b => if b = a then none else M b
theorem put_same {M : Mm} {a : Addr} {c : Cell} : put M a c a = some c := by unfold put; rw [if_pos rfl]
theorem put_ne {M : Mm} {a b : Addr} {c : Cell} (h : b ≠ a) : put M a c b = M b := by unfold put; rw [if_neg h]
theorem put_put {M : Mm} {a : Addr} {c d : Cell} : put (put M a c) a d = put M a d := by
  funext b
  unfold put
  split <;> rfl
theorem ne_mem {M : Mm} {a b : Addr} {c : Cell} (h : M a = some c) (h' : M b = none) : a ≠ b := fun e => by
  rw [e, h'] at h
  cases h
def Sub (M M' : Mm) : Prop := ∀ a c, M a = some c → M' a = some c
theorem Sub.refl (M : Mm) : Sub M M := fun _ _ h => h
theorem Sub.trans {M1 M2 M3 : Mm} (a : Sub M1 M2) (b : Sub M2 M3) : Sub M1 M3 := fun x c h => b x c (a x c h)
theorem Sub.put {M M' : Mm} {a : Addr} {c : Cell} (s : Sub M M') (h : M a = none) : Sub M (put M' a c) := fun b d e => by
  rw [put_ne (ne_mem e h)]
  exact s b d e
theorem Sub.puts {M M' : Mm} {a : Addr} {c : Cell} (s : Sub M M') : Sub (Wk.put M a c) (Wk.put M' a c) := fun b d e => by
  by_cases h : b = a
  · rw [h] at e ⊢
    rw [put_same] at e ⊢
    exact e
  · rw [put_ne h] at e ⊢
    exact s b d e

section
variable (K : PySem.W.Frag)
mutual
inductive Rp (H : Hp) : V → Dt → Prop
  | non : Rp H .non .non
  | bl (b : Bool) : Rp H (.bl b) (.bl b)
  | int (i : Int) : Rp H (.int i) (.int i)
  | str (x : Str) : Rp H (.str x) (.str x)
  | lst {a : Addr} {xs : List V} {ds : List Dt} : H a = some (.lst xs) → RpAll H xs ds → Rp H (.ref a) (.lst ds)
  | frl {a : Addr} {xs : List V} {ds : List Dt} : SqL K H a xs → RpAll H xs ds → Rp H (.ref a) (.frl ds)
  | tup {a : Addr} {xs : List V} {ds : List Dt} : SqT K H a xs → RpAll H xs ds → Rp H (.ref a) (.tup ds)
  | obj {a C dx : Addr} {fs : List (Str × V)} {ds : List (Str × Dt)} : H a = some (.ins C dx fs) → RpFs H fs ds → Rp H (.ref a) (.obj C ds)
  | raw (v : V) : Rp H v (.raw v)
  | exc {a dd : Addr} {fs : List (Str × V)} {ds : List (Str × Dt)} : H dd = some (.xd fs) → RpFs H fs ds → Rp H (.ref a) (.exc a dd ds)
inductive RpAll (H : Hp) : List V → List Dt → Prop
  | nil : RpAll H [] []
  | cons {v : V} {vs : List V} {d : Dt} {ds : List Dt} : Rp H v d → RpAll H vs ds → RpAll H (v :: vs) (d :: ds)
inductive RpFs (H : Hp) : List (Str × V) → List (Str × Dt) → Prop
  | nil : RpFs H [] []
  | cons {f : Str} {v : V} {vs : List (Str × V)} {d : Dt} {ds : List (Str × Dt)} : Rp H v d → RpFs H vs ds → RpFs H ((f, v) :: vs) ((f, d) :: ds)
end
end

section
variable {K : PySem.W.Frag} {H H' : Hp}
mutual
theorem Rp.mono (e : Ex H H') : ∀ {v : V} {d : Dt}, Rp K H v d → Rp K H' v d
  | _, _, .non => .non
  | _, _, .bl b => .bl b
  | _, _, .int i => .int i
  | _, _, .str x => .str x
  | _, _, .lst h r => .lst (e _ _ h) (RpAll.mono e r)
  | _, _, .frl h r => .frl (ex_l e h) (RpAll.mono e r)
  | _, _, .tup h r => .tup (ex_t e h) (RpAll.mono e r)
  | _, _, .obj h r => .obj (e _ _ h) (RpFs.mono e r)
  | _, _, .raw v => .raw v
  | _, _, .exc h r => .exc (e _ _ h) (RpFs.mono e r)
theorem RpAll.mono (e : Ex H H') : ∀ {vs : List V} {ds : List Dt}, RpAll K H vs ds → RpAll K H' vs ds
  | _, _, .nil => .nil
  | _, _, .cons h r => .cons (Rp.mono e h) (RpAll.mono e r)
theorem RpFs.mono (e : Ex H H') : ∀ {vs : List (Str × V)} {ds : List (Str × Dt)}, RpFs K H vs ds → RpFs K H' vs ds
  | _, _, .nil => .nil
  | _, _, .cons h r => .cons (Rp.mono e h) (RpFs.mono e r)
end
theorem RpAll.length : ∀ {vs : List V} {ds : List Dt}, RpAll K H vs ds → vs.length = ds.length
  | _, _, .nil => rfl
  | _, _, .cons _ r => by rw [List.length_cons, List.length_cons, RpAll.length r]
theorem RpAll.get : ∀ {vs : List V} {ds : List Dt} {i : Nat} {d : Dt}, RpAll K H vs ds → ds[i]? = some d → ∃ v, vs[i]? = some v ∧ Rp K H v d
  | _, _, _, _, .nil, e => by simp at e
  | _, _, 0, d, .cons h r, e => by
    simp at e
    subst e
    exact ⟨_, rfl, h⟩
  | _, _, i + 1, d, .cons h r, e => by
    obtain ⟨v, h1, h2⟩ := RpAll.get (i := i) r (by simpa using e)
    exact ⟨v, by simpa using h1, h2⟩
theorem RpAll.getV : ∀ {vs : List V} {ds : List Dt} {i : Nat} {v : V}, RpAll K H vs ds → vs[i]? = some v → ∃ d, ds[i]? = some d ∧ Rp K H v d
  | _, _, _, _, .nil, e => by simp at e
  | _, _, 0, d, .cons h r, e => by
    simp at e
    subst e
    exact ⟨_, rfl, h⟩
  | _, _, i + 1, d, .cons h r, e => by
    obtain ⟨v, h1, h2⟩ := RpAll.getV (i := i) r (by simpa using e)
    exact ⟨v, by simpa using h1, h2⟩
theorem RpAll.append : ∀ {vs ws : List V} {ds es : List Dt}, RpAll K H vs ds → RpAll K H ws es → RpAll K H (vs ++ ws) (ds ++ es)
  | _, _, _, _, .nil, s => s
  | _, _, _, _, .cons h r, s => .cons h (RpAll.append r s)
theorem RpAll.one {v : V} {d : Dt} (h : Rp K H v d) : RpAll K H [v] [d] := .cons h .nil
theorem RpAll.take : ∀ {vs : List V} {ds : List Dt} (n : Nat), RpAll K H vs ds → RpAll K H (vs.take n) (ds.take n)
  | _, _, 0, _ => .nil
  | _, _, _ + 1, .nil => .nil
  | _, _, n + 1, .cons r t => .cons r (RpAll.take n t)
theorem RpAll.drop : ∀ {vs : List V} {ds : List Dt} (n : Nat), RpAll K H vs ds → RpAll K H (vs.drop n) (ds.drop n)
  | _, _, 0, r => r
  | _, _, _ + 1, .nil => .nil
  | _, _, n + 1, .cons _ t => RpAll.drop n t
theorem RpAll.set {v : V} {d : Dt} (h : Rp K H v d) : ∀ {vs : List V} {ds : List Dt} (i : Nat), RpAll K H vs ds → RpAll K H (vs.set i v) (ds.set i d)
  | _, _, _, .nil => .nil
  | _, _, 0, .cons _ t => .cons h t
  | _, _, i + 1, .cons q t => .cons q (RpAll.set h i t)
theorem RpAll.reverse {vs : List V} {ds : List Dt} (h : RpAll K H vs ds) : RpAll K H vs.reverse ds.reverse := by
  have key : ∀ {vs : List V} {ds : List Dt} {ws : List V} {es : List Dt}, RpAll K H vs ds → RpAll K H ws es → RpAll K H (vs.reverseAux ws) (ds.reverseAux es) := by
    intro vs
    induction vs with
    | nil =>
      intro ds ws es h s
      cases h
      exact s
    | cons v vs ih =>
      intro ds ws es h s
      cases h with
      | cons h r =>
        have q := ih r (RpAll.cons h s)
        exact q
  exact key h .nil
theorem RpFs.lookup : ∀ {vs : List (Str × V)} {ds : List (Str × Dt)} {f : Str} {d : Dt}, RpFs K H vs ds → ds.lookup f = some d → ∃ v, vs.lookup f = some v ∧ Rp K H v d
  | _, _, _, _, .nil, e => by cases e
  | _, _, f, d, .cons (f := g) h r, e => by
    rw [List.lookup_cons] at e ⊢
    cases hq : f == g with
    | true =>
      rw [hq] at e
      simp only at e
      cases e
      exact ⟨_, rfl, h⟩
    | false =>
      rw [hq] at e
      exact RpFs.lookup r e
theorem RpFs.lookupN : ∀ {vs : List (Str × V)} {ds : List (Str × Dt)} {f : Str}, RpFs K H vs ds → ds.lookup f = none → vs.lookup f = none
  | _, _, _, .nil, e => rfl
  | _, _, f, .cons (f := g) h r, e => by
    rw [List.lookup_cons] at e ⊢
    cases hq : f == g with
    | true =>
      rw [hq] at e
      cases e
    | false =>
      rw [hq] at e
      exact RpFs.lookupN r e
theorem RpFs.length : ∀ {vs : List (Str × V)} {ds : List (Str × Dt)}, RpFs K H vs ds → vs.length = ds.length
  | _, _, .nil => rfl
  | _, _, .cons _ r => by rw [List.length_cons, List.length_cons, RpFs.length r]
theorem Rp.int_inv {v : V} {i : Int} (h : Rp K H v (.int i)) : v = .int i := by
  cases h
  rfl
theorem Rp.bl_inv {v : V} {b : Bool} (h : Rp K H v (.bl b)) : v = .bl b := by
  cases h
  rfl
theorem Rp.str_inv {v : V} {x : Str} (h : Rp K H v (.str x)) : v = .str x := by
  cases h
  rfl
theorem Rp.non_inv {v : V} (h : Rp K H v .non) : v = .non := by
  cases h
  rfl
theorem Rp.raw_inv {v u : V} (h : Rp K H v (.raw u)) : v = u := by
  cases h
  rfl
theorem Rp.tup_inv {v : V} {ds : List Dt} (h : Rp K H v (.tup ds)) : ∃ a xs, v = .ref a ∧ SqT K H a xs ∧ RpAll K H xs ds := by
  cases h with
  | tup h r => exact ⟨_, _, rfl, h, r⟩
theorem Rp.lst_inv {v : V} {ds : List Dt} (h : Rp K H v (.lst ds)) : ∃ a xs, v = .ref a ∧ H a = some (.lst xs) ∧ RpAll K H xs ds := by
  cases h with
  | lst h r => exact ⟨_, _, rfl, h, r⟩
theorem Rp.frl_inv {v : V} {ds : List Dt} (h : Rp K H v (.frl ds)) : ∃ a xs, v = .ref a ∧ SqL K H a xs ∧ RpAll K H xs ds := by
  cases h with
  | frl h r => exact ⟨_, _, rfl, h, r⟩
theorem Rp.exc_inv {v : V} {a dd : Addr} {ds : List (Str × Dt)} (h : Rp K H v (.exc a dd ds)) : v = .ref a ∧ ∃ fs, H dd = some (.xd fs) ∧ RpFs K H fs ds := by
  cases h with
  | exc h r => exact ⟨rfl, _, h, r⟩
theorem Rp.obj_inv {v : V} {C : Addr} {ds : List (Str × Dt)} (h : Rp K H v (.obj C ds)) : ∃ a dx fs, v = .ref a ∧ H a = some (.ins C dx fs) ∧ RpFs K H fs ds := by
  cases h with
  | obj h r => exact ⟨_, _, _, rfl, h, r⟩
theorem RpAll.ints : ∀ {vs : List V} {ns : List Int}, RpAll K H vs (ns.map Dt.int) → vs = ns.map V.int
  | _, [], .nil => rfl
  | _, n :: ns, .cons h r => by rw [h.int_inv, RpAll.ints r] <;> rfl
theorem RpAll.bls : ∀ {vs : List V} {ns : List Bool}, RpAll K H vs (ns.map Dt.bl) → vs = ns.map V.bl
  | _, [], .nil => rfl
  | _, n :: ns, .cons h r => by rw [h.bl_inv, RpAll.bls r] <;> rfl
theorem RpAll.strs : ∀ {vs : List V} {ns : List Str}, RpAll K H vs (ns.map Dt.str) → vs = ns.map V.str
  | _, [], .nil => rfl
  | _, n :: ns, .cons h r => by rw [h.str_inv, RpAll.strs r] <;> rfl
theorem RpAll.ofInts : ∀ {ns : List Int}, RpAll K H (ns.map V.int) (ns.map Dt.int)
  | [] => .nil
  | _ :: _ => .cons (.int _) RpAll.ofInts
theorem RpAll.ofStrs : ∀ {ns : List Str}, RpAll K H (ns.map V.str) (ns.map Dt.str)
  | [] => .nil
  | _ :: _ => .cons (.str _) RpAll.ofStrs
end

/-- a cell stands in the heap -/
def CellAt (K : PySem.W.Frag) (H H1 : Hp) (a : Addr) : Cell → Prop
  | .lst xs => ∃ vs, H1 a = some (.lst vs) ∧ RpAll K H vs xs
  | .ins C fs => ∃ dx vs, H1 a = some (.ins C dx vs) ∧ RpFs K H vs fs
theorem CellAt.mono {K : PySem.W.Frag} {H H' H1 H2 : Hp} {a : Addr} : ∀ {c : Cell}, CellAt K H H1 a c → Ex H H' → H2 a = H1 a → CellAt K H' H2 a c
  | .lst xs, ⟨vs, h, r⟩, e, q => ⟨vs, q.trans h, r.mono e⟩
  | .ins C fs, ⟨dx, vs, h, r⟩, e, q => ⟨dx, vs, q.trans h, r.mono e⟩
theorem CellAt.there {K : PySem.W.Frag} {H H1 : Hp} {a : Addr} : ∀ {c : Cell}, CellAt K H H1 a c → ∃ o, H1 a = some o
  | .lst xs, ⟨vs, h, r⟩ => ⟨_, h⟩
  | .ins C fs, ⟨dx, vs, h, r⟩ => ⟨_, h⟩

/-- B: what stays and is not looked at; H: what is known and stays; H1: the heap; M: what may change -/
structure Ok (K : PySem.W.Frag) (B H H1 : Hp) (M : Mm) : Prop where
  b : Ex B H1
  bh : ∀ a o, B a = some o → H a = none
  h : Ex H H1
  m : ∀ a c, M a = some c → B a = none ∧ H a = none ∧ CellAt K H H1 a c
structure SlOk (K : PySem.W.Frag) (H : Hp) (σ : L2.St) (ρ : Rho) : Prop where
  len : σ.length = ρ.length
  get : ∀ (i : Nat) (d : Dt), ρ[i]? = some (some d) → ∃ v, σ[i]? = some (some v) ∧ Rp K H v d

section
variable {K : PySem.W.Frag} {B H H' H1 H2 : Hp} {M M' : Mm} {σ : L2.St} {ρ : Rho}
theorem SlOk.mono (s : SlOk K H σ ρ) (e : Ex H H') : SlOk K H' σ ρ := ⟨s.len, fun i d h => by
  obtain ⟨v, h1, h2⟩ := s.get i d h
  exact ⟨v, h1, h2.mono e⟩⟩
theorem SlOk.set {i : Nat} {v : V} {d : Dt} (s : SlOk K H σ ρ) (r : Rp K H v d) : SlOk K H (σ.set i (some v)) (ρ.set i (some d)) := by
  refine ⟨by rw [List.length_set, List.length_set, s.len], fun j e h => ?_⟩
  by_cases hj : i = j
  · subst hj
    by_cases hl : i < ρ.length
    · rw [List.getElem?_set_self hl] at h
      cases h
      exact ⟨v, by rw [List.getElem?_set_self (by rw [s.len]; exact hl)], r⟩
    · rw [List.getElem?_eq_none (by rw [List.length_set]; omega)] at h
      cases h
  · rw [List.getElem?_set_ne hj] at h ⊢
    exact s.get j e h
theorem SlOk.wipe (s : SlOk K H σ ρ) : ∀ vs : List Nat, SlOk K H (L2.wipe σ vs) (vs.foldr (fun v r => r.set v none) ρ)
  | [] => s
  | v :: vs => by
    have q := SlOk.wipe s vs
    refine ⟨by unfold L2.wipe; rw [List.foldr_cons, List.length_set, List.length_set, q.len], fun j e h => ?_⟩
    rw [List.foldr_cons] at h
    unfold L2.wipe
    by_cases hj : v = j
    · subst hj
      by_cases hl : v < (vs.foldr (fun v r => r.set v none) ρ).length
      · rw [List.getElem?_set_self hl] at h
        cases h
      · rw [List.getElem?_eq_none (by rw [List.length_set]; omega)] at h
        cases h
    · rw [List.getElem?_set_ne hj] at h ⊢
      exact q.get j e h
/-- new objects are laid, known -/
theorem Ok.grow {p : Addr} {o : HO} (k : Ok K B H H1 M) (hp : H1 p = none) : Ok K B (upd H p o) (upd H1 p o) M := by
  have hH : H p = none := fresh_back k.h hp
  refine ⟨k.b.trans (Ex.new hp), fun a u e => ?_, fun a u e => ?_, fun a c e => ?_⟩
  · rw [upd_ne (ne_of_none (k.b a u e) hp)]
    exact k.bh a u e
  · by_cases ha : a = p
    · rw [ha] at e ⊢
      rw [upd_same] at e ⊢
      exact e
    · rw [upd_ne ha] at e ⊢
      exact k.h a u e
  · obtain ⟨h1, h2, h3⟩ := k.m a c e
    obtain ⟨u, hu⟩ := h3.there
    have ha : a ≠ p := ne_of_none hu hp
    exact ⟨h1, by rw [upd_ne ha]; exact h2, h3.mono (Ex.new hH) (upd_ne ha)⟩
/-- .. as a thing that may change -/
theorem Ok.cell {p : Addr} {o : HO} {c : Cell} (k : Ok K B H H1 M) (hp : H1 p = none) (hc : CellAt K H (upd H1 p o) p c) : Ok K B H (upd H1 p o) (put M p c) := by
  have hH : H p = none := fresh_back k.h hp
  have hB : B p = none := fresh_back k.b hp
  refine ⟨k.b.trans (Ex.new hp), k.bh, k.h.trans (Ex.new hp), fun a c' e => ?_⟩
  by_cases ha : a = p
  · rw [ha] at e ⊢
    rw [put_same] at e
    cases e
    exact ⟨hB, hH, hc⟩
  · rw [put_ne ha] at e
    obtain ⟨h1, h2, h3⟩ := k.m a c' e
    exact ⟨h1, h2, h3.mono (Ex.refl H) (upd_ne ha)⟩
theorem Ok.noMem {p : Addr} (k : Ok K B H H1 M) (hp : H1 p = none) : M p = none := by
  cases e : M p with
  | none => rfl
  | some c =>
    obtain ⟨_, _, h⟩ := k.m p c e
    obtain ⟨o, h⟩ := h.there
    rw [hp] at h
    cases h
/-- a cell is changed -/
theorem Ok.write {p : Addr} {o : HO} {c c' : Cell} (k : Ok K B H H1 M) (hc : M p = some c) (hc' : CellAt K H (upd H1 p o) p c') : Ok K B H (upd H1 p o) (put M p c') := by
  obtain ⟨h1, h2, h3⟩ := k.m p c hc
  refine ⟨k.b.mut h1, k.bh, k.h.mut h2, fun a d e => ?_⟩
  by_cases ha : a = p
  · rw [ha] at e ⊢
    rw [put_same] at e
    cases e
    exact ⟨h1, h2, hc'⟩
  · rw [put_ne ha] at e
    obtain ⟨q1, q2, q3⟩ := k.m a d e
    exact ⟨q1, q2, q3.mono (Ex.refl H) (upd_ne ha)⟩
theorem Ok.sub (k : Ok K B H H1 M) (s : Sub M' M) : Ok K B H H1 M' := ⟨k.b, k.bh, k.h, fun a c e => k.m a c (s a c e)⟩
theorem del_sub {a : Addr} : Sub (del M a) M := fun b c e => by
  unfold del at e
  by_cases h : b = a
  · rw [if_pos h] at e
    cases e
  · rw [if_neg h] at e
    exact e
theorem del_put_sub {a : Addr} {c : Cell} (h : Sub M' M) (hn : M' a = none) : Sub M' (del (put M a c) a) := fun b d e => by
  have hb : b ≠ a := ne_mem e hn
  unfold del
  rw [if_neg hb, put_ne hb]
  exact h b d e
/-- a cell is known from now on, and stays -/
theorem Ok.freeze {p : Addr} {c : Cell} {o : HO} (k : Ok K B H H1 M) (hc : M p = some c) (ho : H1 p = some o) : Ok K B (upd H p o) H1 (del M p) ∧ Ex H (upd H p o) := by
  obtain ⟨h1, h2, h3⟩ := k.m p c hc
  refine ⟨⟨k.b, fun a u e => ?_, fun a u e => ?_, fun a d e => ?_⟩, Ex.new h2⟩
  · rw [upd_ne (ne_of_none e h1)]
    exact k.bh a u e
  · by_cases ha : a = p
    · rw [ha] at e ⊢
      rw [upd_same] at e
      rw [ho]
      exact e
    · rw [upd_ne ha] at e
      exact k.h a u e
  · have ha : a ≠ p := fun z => by
      rw [z] at e
      unfold del at e
      rw [if_pos rfl] at e
      cases e
    obtain ⟨q1, q2, q3⟩ := k.m a d (del_sub a d e)
    exact ⟨q1, by rw [upd_ne ha]; exact q2, q3.mono (Ex.new h2) rfl⟩
end

/-! ### the calculus -/
section
variable (K : PySem.W.Frag)
def EX (te : TE) (ρ : Rho) (M : Mm) (Φ : Dt → Mm → Prop) : Prop := ∀ (B H H1 : Hp) (σ : L2.St), Ok K B H H1 M → SlOk K H σ ρ → ∀ Q : VK,
  (∀ v d M' H' H2, Φ d M' → Ok K B H' H2 M' → Ex H H' → Rp K H' v d → Q v H2) → te σ H1 Q
def TX (tt : TT) (ρ : Rho) (M : Mm) (Φ : Bool → Mm → Prop) : Prop := ∀ (B H H1 : Hp) (σ : L2.St), Ok K B H H1 M → SlOk K H σ ρ → ∀ Q : Bool → Hp → Prop,
  (∀ b M' H' H2, Φ b M' → Ok K B H' H2 M' → Ex H H' → Q b H2) → tt σ H1 Q
def AX (ta : TA) (ρ : Rho) (M : Mm) (Φ : List Dt → Mm → Prop) : Prop := ∀ (B H H1 : Hp) (σ : L2.St), Ok K B H H1 M → SlOk K H σ ρ → ∀ Q : List V → Hp → Prop,
  (∀ vs ds M' H' H2, Φ ds M' → Ok K B H' H2 M' → Ex H H' → RpAll K H' vs ds → Q vs H2) → ta σ H1 Q
def OX (to : TO) (ρ : Rho) (M : Mm) (Φ : Option Int → Mm → Prop) : Prop := ∀ (B H H1 : Hp) (σ : L2.St), Ok K B H H1 M → SlOk K H σ ρ → ∀ Q : Option Int → Hp → Prop,
  (∀ o M' H' H2, Φ o M' → Ok K B H' H2 M' → Ex H H' → Q o H2) → to σ H1 Q
/-- operations by values -/
def RX (r : R2) (x y : Dt) (M : Mm) (Φ : Dt → Mm → Prop) : Prop := ∀ (B H H1 : Hp) (vx vy : V), Ok K B H H1 M → Rp K H vx x → Rp K H vy y → ∀ Q : VK,
  (∀ v d M' H' H2, Φ d M' → Ok K B H' H2 M' → Ex H H' → Rp K H' v d → Q v H2) → r vx vy H1 Q
def UX (r : V → Hp → VK → Prop) (x : Dt) (M : Mm) (Φ : Dt → Mm → Prop) : Prop := ∀ (B H H1 : Hp) (vx : V), Ok K B H H1 M → Rp K H vx x → ∀ Q : VK,
  (∀ v d M' H' H2, Φ d M' → Ok K B H' H2 M' → Ex H H' → Rp K H' v d → Q v H2) → r vx H1 Q
def CX (r : List V → Hp → VK → Prop) (xs : List Dt) (M : Mm) (Φ : Dt → Mm → Prop) : Prop := ∀ (B H H1 : Hp) (vs : List V), Ok K B H H1 M → RpAll K H vs xs → ∀ Q : VK,
  (∀ v d M' H' H2, Φ d M' → Ok K B H' H2 M' → Ex H H' → Rp K H' v d → Q v H2) → r vs H1 Q
def LX (r : V → Option Int → Option Int → Hp → VK → Prop) (x : Dt) (lo hi : Option Int) (M : Mm) (Φ : Dt → Mm → Prop) : Prop := ∀ (B H H1 : Hp) (vx : V), Ok K B H H1 M → Rp K H vx x → ∀ Q : VK,
  (∀ v d M' H' H2, Φ d M' → Ok K B H' H2 M' → Ex H H' → Rp K H' v d → Q v H2) → r vx lo hi H1 Q
def MX (r : V → List V → Hp → VK → Prop) (x : Dt) (xs : List Dt) (M : Mm) (Φ : Dt → Mm → Prop) : Prop := ∀ (B H H1 : Hp) (vx : V) (vs : List V), Ok K B H H1 M → Rp K H vx x → RpAll K H vs xs → ∀ Q : VK,
  (∀ v d M' H' H2, Φ d M' → Ok K B H' H2 M' → Ex H H' → Rp K H' v d → Q v H2) → r vx vs H1 Q
/-- targets -/
def GX (g : TG) (x : Dt) (ρ : Rho) (M : Mm) (Φ : Rho → Mm → Prop) : Prop := ∀ (B H H1 : Hp) (σ : L2.St) (v : V), Ok K B H H1 M → SlOk K H σ ρ → Rp K H v x → ∀ Q : L2.St → Hp → Prop,
  (∀ ρ' M' σ' H' H2, Φ ρ' M' → Ok K B H' H2 M' → SlOk K H' σ' ρ' → Ex H H' → Q σ' H2) → g v σ H1 Q
def GXs (g : TGs) (xs : List Dt) (ρ : Rho) (M : Mm) (Φ : Rho → Mm → Prop) : Prop := ∀ (B H H1 : Hp) (σ : L2.St) (vs : List V), Ok K B H H1 M → SlOk K H σ ρ → RpAll K H vs xs → ∀ Q : L2.St → Hp → Prop,
  (∀ ρ' M' σ' H' H2, Φ ρ' M' → Ok K B H' H2 M' → SlOk K H' σ' ρ' → Ex H H' → Q σ' H2) → g vs σ H1 Q
structure Es where
  nx : Rho → Mm → Prop
  rt : Dt → Mm → Prop
  bk : Rho → Mm → Prop := fun _ _ => False
  ct : Rho → Mm → Prop := fun _ _ => False
structure RelE (B H : Hp) (D : Ends) (E : Es) : Prop where
  nx : ∀ ρ' M' σ' H' H2, E.nx ρ' M' → Ok K B H' H2 M' → SlOk K H' σ' ρ' → Ex H H' → D.nx σ' H2
  rt : ∀ v d M' H' H2, E.rt d M' → Ok K B H' H2 M' → Ex H H' → Rp K H' v d → D.rt v H2
  bk : ∀ ρ' M' σ' H' H2, E.bk ρ' M' → Ok K B H' H2 M' → SlOk K H' σ' ρ' → Ex H H' → D.bk σ' H2
  ct : ∀ ρ' M' σ' H' H2, E.ct ρ' M' → Ok K B H' H2 M' → SlOk K H' σ' ρ' → Ex H H' → D.ct σ' H2
def SX (t : TS) (ρ : Rho) (M : Mm) (E : Es) : Prop := ∀ (B H H1 : Hp) (σ : L2.St) (D : Ends), Ok K B H H1 M → SlOk K H σ ρ → RelE K B H D E → t D σ H1
end

section
variable {K : PySem.W.Frag} {ρ : Rho} {M : Mm} {Φ : Dt → Mm → Prop} {ta tb te tc : TE} {t u : TT}
theorem RelE.mono {B H H' : Hp} {D : Ends} {E : Es} (r : RelE K B H D E) (e : Ex H H') : RelE K B H' D E :=
  ⟨fun ρ' M' σ' H2 H3 h k s q => r.nx ρ' M' σ' H2 H3 h k s (e.trans q), fun v d M' H2 H3 h k q x => r.rt v d M' H2 H3 h k (e.trans q) x, fun ρ' M' σ' H2 H3 h k s q => r.bk ρ' M' σ' H2 H3 h k s (e.trans q), fun ρ' M' σ' H2 H3 h k s q => r.ct ρ' M' σ' H2 H3 h k s (e.trans q)⟩

/-! names, constants -/
theorem ex_var {i : Nat} {d : Dt} (h : ρ[i]? = some (some d)) (k : Φ d M) : EX K (tVar i) ρ M Φ := fun B H H1 σ o s Q q => by
  obtain ⟨v, h1, h2⟩ := s.get i d h
  exact ⟨v, h1, q v d M H H1 k o (Ex.refl H) h2⟩
theorem ex_c {v : V} {d : Dt} (r : ∀ H, Rp K H v d) (k : Φ d M) : EX K (tC v) ρ M Φ := fun B H H1 σ o s Q q => q v d M H H1 k o (Ex.refl H) (r H)
theorem ex_int {i : Int} (k : Φ (.int i) M) : EX K (tC (.int i)) ρ M Φ := ex_c (fun _ => .int i) k
theorem ex_str {x : Str} (k : Φ (.str x) M) : EX K (tC (.str x)) ρ M Φ := ex_c (fun _ => .str x) k
theorem ex_bl {b : Bool} (k : Φ (.bl b) M) : EX K (tC (.bl b)) ρ M Φ := ex_c (fun _ => .bl b) k
theorem ex_non (k : Φ .non M) : EX K (tC .non) ρ M Φ := ex_c (fun _ => .non) k
theorem ex_raw {a : Addr} (k : Φ (.raw (.ref a)) M) : EX K (tC (.ref a)) ρ M Φ := ex_c (fun _ => .raw _) k
theorem EX.mono {Ψ : Dt → Mm → Prop} (h : EX K te ρ M Φ) (k : ∀ d M', Φ d M' → Ψ d M') : EX K te ρ M Ψ := fun B H H1 σ o s Q q => h B H H1 σ o s Q fun v d M' H' H2 z => q v d M' H' H2 (k d M' z)
theorem TX.mono {Φ Ψ : Bool → Mm → Prop} (h : TX K t ρ M Φ) (k : ∀ d M', Φ d M' → Ψ d M') : TX K t ρ M Ψ := fun B H H1 σ o s Q q => h B H H1 σ o s Q fun d M' H' H2 z => q d M' H' H2 (k d M' z)
/-- a cell that is handed on as data: it stays from now on -/
theorem ex_frz (h : EX K te ρ M (fun d M1 => ∃ a xs, d = .raw (.ref a) ∧ M1 a = some (.lst xs) ∧ Φ (.lst xs) (del M1 a))) : EX K te ρ M Φ := fun B H H1 σ o s Q q =>
  h B H H1 σ o s Q fun v d M' H' H2 z k e r => by
    obtain ⟨a, xs, rfl, hm, hk⟩ := z
    obtain ⟨h1, h2, vs, h3, h4⟩ := k.m a _ hm
    obtain ⟨k', e'⟩ := k.freeze hm h3
    rw [r.raw_inv]
    exact q _ _ _ _ _ hk k' (e.trans e') (.lst upd_same (h4.mono e'))
theorem ex_frzI (h : EX K te ρ M (fun d M1 => ∃ a C fs, d = .raw (.ref a) ∧ M1 a = some (.ins C fs) ∧ Φ (.obj C fs) (del M1 a))) : EX K te ρ M Φ := fun B H H1 σ o s Q q =>
  h B H H1 σ o s Q fun v d M' H' H2 z k e r => by
    obtain ⟨a, C, fs, rfl, hm, hk⟩ := z
    obtain ⟨h1, h2, dx, vs, h3, h4⟩ := k.m a _ hm
    obtain ⟨k', e'⟩ := k.freeze hm h3
    rw [r.raw_inv]
    exact q _ _ _ _ _ hk k' (e.trans e') (.obj upd_same (h4.mono e'))

/-! operators, tests -/
theorem ex_op {r : R2} (h : EX K ta ρ M (fun x M1 => EX K tb ρ M1 (fun y M2 => RX K r x y M2 Φ))) : EX K (tOp r ta tb) ρ M Φ := fun B H H1 σ o s Q q =>
  h B H H1 σ o s _ fun v d M' H' H2 z k e rx => z B H' H2 σ k (s.mono e) _ fun v2 d2 M2 H3 H4 z2 k2 e2 ry => z2 B H3 H4 v v2 k2 (rx.mono e2) ry Q fun v3 d3 M3 H5 H6 z3 k3 e3 rz => q v3 d3 M3 H5 H6 z3 k3 ((e.trans e2).trans e3) rz
theorem ex_un {r : V → Hp → VK → Prop} (h : EX K ta ρ M (fun x M1 => UX K r x M1 Φ)) : EX K (tUn r ta) ρ M Φ := fun B H H1 σ o s Q q =>
  h B H H1 σ o s _ fun v d M' H' H2 z k e rx => z B H' H2 v k rx Q fun v3 d3 M3 H5 H6 z3 k3 e3 rz => q v3 d3 M3 H5 H6 z3 k3 (e.trans e3) rz
theorem ex_cb {r : List V → Hp → VK → Prop} {ta : TA} (h : AX K ta ρ M (fun xs M1 => CX K r xs M1 Φ)) : EX K (tCB r ta) ρ M Φ := fun B H H1 σ o s Q q =>
  h B H H1 σ o s _ fun v d M' H' H2 z k e rx => z B H' H2 v k rx Q fun v3 d3 M3 H5 H6 z3 k3 e3 rz => q v3 d3 M3 H5 H6 z3 k3 (e.trans e3) rz
theorem ex_tup {ta : TA} (h : AX K ta ρ M (fun xs M1 => xs.length ≤ sizeLine ∧ Φ (.tup xs) M1)) : EX K (tTup ta) ρ M Φ := fun B H H1 σ o s Q q =>
  h B H H1 σ o s _ fun vs ds M' H' H2 z k e rx => ⟨by rw [rx.length]; exact z.1, fun p hp => q _ _ _ _ _ z.2 (k.grow hp) (e.trans (Ex.new (fresh_back k.h hp))) (.tup (st_of upd_same) (rx.mono (Ex.new (fresh_back k.h hp))))⟩
/-- a new list, as data | as a cell -/
theorem ex_lst {ta : TA} (h : AX K ta ρ M (fun xs M1 => xs.length ≤ sizeLine ∧ Φ (.lst xs) M1)) : EX K (tLst ta) ρ M Φ := fun B H H1 σ o s Q q =>
  h B H H1 σ o s _ fun vs ds M' H' H2 z k e rx => ⟨by rw [rx.length]; exact z.1, fun p hp => q _ _ _ _ _ z.2 (k.grow hp) (e.trans (Ex.new (fresh_back k.h hp))) (.lst upd_same (rx.mono (Ex.new (fresh_back k.h hp))))⟩
theorem ex_lstC {ta : TA} (h : AX K ta ρ M (fun xs M1 => xs.length ≤ sizeLine ∧ ∀ a, M1 a = none → Φ (.raw (.ref a)) (put M1 a (.lst xs)))) : EX K (tLst ta) ρ M Φ := fun B H H1 σ o s Q q =>
  h B H H1 σ o s _ fun vs ds M' H' H2 z k e rx => ⟨by rw [rx.length]; exact z.1, fun p hp => q _ _ _ _ _ (z.2 p (k.noMem hp)) (k.cell hp ⟨vs, upd_same, rx⟩) e (.raw _)⟩
theorem ax_nil {Φ : List Dt → Mm → Prop} (k : Φ [] M) : AX K tNil ρ M Φ := fun B H H1 σ o s Q q => q [] [] M H H1 k o (Ex.refl H) .nil
theorem ax_cons {Φ : List Dt → Mm → Prop} {tr : TA} (h : EX K te ρ M (fun x M1 => AX K tr ρ M1 (fun xs M2 => Φ (x :: xs) M2))) : AX K (tCons te tr) ρ M Φ := fun B H H1 σ o s Q q =>
  h B H H1 σ o s _ fun v d M' H' H2 z k e rx => z B H' H2 σ k (s.mono e) _ fun vs ds M2 H3 H4 z2 k2 e2 ry => q _ _ _ _ _ z2 k2 (e.trans e2) (.cons (rx.mono e2) ry)
theorem ex_if (h : TX K t ρ M (fun b M1 => (b = true → EX K ta ρ M1 Φ) ∧ (b = false → EX K tb ρ M1 Φ))) : EX K (tIf t ta tb) ρ M Φ := fun B H H1 σ o s Q q =>
  h B H H1 σ o s _ fun b M' H' H2 z k e => by
    cases b with
    | true => exact iteT (z.1 rfl B H' H2 σ k (s.mono e) Q fun v d M3 H3 H4 z2 k2 e2 => q v d M3 H3 H4 z2 k2 (e.trans e2))
    | false => exact iteF (z.2 rfl B H' H2 σ k (s.mono e) Q fun v d M3 H3 H4 z2 k2 e2 => q v d M3 H3 H4 z2 k2 (e.trans e2))
theorem tx_test {Φ : Bool → Mm → Prop} (h : EX K te ρ M (fun d M1 => ∃ b, d = .bl b ∧ Φ b M1)) : TX K (tTest te) ρ M Φ := fun B H H1 σ o s Q q =>
  h B H H1 σ o s _ fun v d M' H' H2 z k e r => by
    obtain ⟨b, rfl, z⟩ := z
    exact ⟨b, r.bl_inv, q b M' H' H2 z k e⟩
theorem tx_B {Φ : Bool → Mm → Prop} (h : EX K te ρ M (fun d M1 => ∃ b, d = .bl b ∧ Φ b M1)) : TX K (tB te) ρ M Φ := fun B H H1 σ o s Q q =>
  h B H H1 σ o s _ fun v d M' H' H2 z k e r => by
    obtain ⟨b, rfl, z⟩ := z
    exact ⟨b, r.bl_inv, q b M' H' H2 z k e⟩
theorem tx_and {Φ : Bool → Mm → Prop} (h : TX K t ρ M (fun b M1 => (b = true → TX K u ρ M1 Φ) ∧ (b = false → Φ false M1))) : TX K (tAnd t u) ρ M Φ := fun B H H1 σ o s Q q =>
  h B H H1 σ o s _ fun b M' H' H2 z k e => by
    cases b with
    | true => exact iteT (z.1 rfl B H' H2 σ k (s.mono e) Q fun d M3 H3 H4 z2 k2 e2 => q d M3 H3 H4 z2 k2 (e.trans e2))
    | false => exact iteF (q false M' H' H2 (z.2 rfl) k e)
theorem tx_or {Φ : Bool → Mm → Prop} (h : TX K t ρ M (fun b M1 => (b = true → Φ true M1) ∧ (b = false → TX K u ρ M1 Φ))) : TX K (tOr t u) ρ M Φ := fun B H H1 σ o s Q q =>
  h B H H1 σ o s _ fun b M' H' H2 z k e => by
    cases b with
    | false => exact iteF (z.2 rfl B H' H2 σ k (s.mono e) Q fun d M3 H3 H4 z2 k2 e2 => q d M3 H3 H4 z2 k2 (e.trans e2))
    | true => exact iteT (q true M' H' H2 (z.1 rfl) k e)
theorem tx_not {Φ : Bool → Mm → Prop} (h : TX K t ρ M (fun b M1 => Φ (!b) M1)) : TX K (tNot t) ρ M Φ := fun B H H1 σ o s Q q => h B H H1 σ o s _ fun b M' H' H2 z k e => q (!b) M' H' H2 z k e
theorem tx_yes {Φ : Bool → Mm → Prop} (k : Φ true M) : TX K tYes ρ M Φ := fun B H H1 σ o s Q q => q true M H H1 k o (Ex.refl H)
theorem ex_andV (h : EX K ta ρ M (fun d M1 => ∃ b, d = .bl b ∧ (b = true → EX K tb ρ M1 Φ) ∧ (b = false → Φ (.bl false) M1))) : EX K (tAndV ta tb) ρ M Φ := fun B H H1 σ o s Q q =>
  h B H H1 σ o s _ fun v d M' H' H2 z k e r => by
    obtain ⟨b, rfl, z⟩ := z
    refine ⟨b, r.bl_inv, ?_⟩
    cases b with
    | true => exact iteT (z.1 rfl B H' H2 σ k (s.mono e) Q fun v d M3 H3 H4 z2 k2 e2 => q v d M3 H3 H4 z2 k2 (e.trans e2))
    | false => exact iteF (q _ _ M' H' H2 (z.2 rfl) k e (.bl false))
theorem ex_orV (h : EX K ta ρ M (fun d M1 => ∃ b, d = .bl b ∧ (b = true → Φ (.bl true) M1) ∧ (b = false → EX K tb ρ M1 Φ))) : EX K (tOrV ta tb) ρ M Φ := fun B H H1 σ o s Q q =>
  h B H H1 σ o s _ fun v d M' H' H2 z k e r => by
    obtain ⟨b, rfl, z⟩ := z
    refine ⟨b, r.bl_inv, ?_⟩
    cases b with
    | false => exact iteF (z.2 rfl B H' H2 σ k (s.mono e) Q fun v d M3 H3 H4 z2 k2 e2 => q v d M3 H3 H4 z2 k2 (e.trans e2))
    | true => exact iteT (q _ _ M' H' H2 (z.1 rfl) k e (.bl true))
theorem ex_notV (h : EX K ta ρ M (fun d M1 => ∃ b, d = .bl b ∧ Φ (.bl (!b)) M1)) : EX K (tNotV ta) ρ M Φ := fun B H H1 σ o s Q q =>
  h B H H1 σ o s _ fun v d M' H' H2 z k e r => by
    obtain ⟨b, rfl, z⟩ := z
    exact ⟨b, r.bl_inv, q _ _ M' H' H2 z k e (.bl _)⟩
/-! slices -/
theorem ex_sl {r : V → Option Int → Option Int → Hp → VK → Prop} {tl th : TO} (h : EX K te ρ M (fun x M1 => OX K tl ρ M1 (fun l M2 => OX K th ρ M2 (fun u M3 => LX K r x l u M3 Φ)))) : EX K (tSl r te tl th) ρ M Φ := fun B H H1 σ o s Q q =>
  h B H H1 σ o s _ fun v d M' H' H2 z k e rx => z B H' H2 σ k (s.mono e) _ fun l M2 H3 H4 z2 k2 e2 => z2 B H3 H4 σ k2 (s.mono (e.trans e2)) _ fun w M4 H5 H6 z3 k3 e3 =>
    z3 B H5 H6 v k3 (rx.mono (e2.trans e3)) Q fun v3 d3 M3 H7 H8 z4 k4 e4 rz => q v3 d3 M3 H7 H8 z4 k4 (((e.trans e2).trans e3).trans e4) rz
theorem ox_none {Φ : Option Int → Mm → Prop} (k : Φ none M) : OX K tNoPart ρ M Φ := fun B H H1 σ o s Q q => q none M H H1 k o (Ex.refl H)
theorem ox_some {Φ : Option Int → Mm → Prop} (h : EX K te ρ M (fun d M1 => ∃ i, d = .int i ∧ Φ (some i) M1)) : OX K (tPart te) ρ M Φ := fun B H H1 σ o s Q q =>
  h B H H1 σ o s _ fun v d M' H' H2 z k e r => by
    obtain ⟨i, rfl, z⟩ := z
    exact ⟨i, r.int_inv, q _ M' H' H2 z k e⟩
end
end Wk
/-! ## WkB -/
namespace Wk
open PySem L2 Evl

section
variable {K : PySem.W.Frag} {ρ : Rho} {M : Mm} {Φ : Dt → Mm → Prop} {ta tb te tc : TE} {t u : TT} {ts us : TS} {E : Es} {g : TG}
/-! targets -/
theorem gx_name {i : Nat} {d : Dt} {Ψ : Rho → Mm → Prop} (k : Ψ (ρ.set i (some d)) M) : GX K (gName i) d ρ M Ψ := fun B H H1 σ v o s r Q q => q _ M _ H H1 k o (s.set r) (Ex.refl H)
theorem gx_tup {n : Nat} {t : TGs} {ds : List Dt} {Ψ : Rho → Mm → Prop} (hl : ds.length = n) (h : GXs K t ds ρ M Ψ) : GX K (gTup K n t) (.tup ds) ρ M Ψ := fun B H H1 σ v o s r Q q => by
  obtain ⟨a, xs, rfl, h1, h2⟩ := r.tup_inv
  exact ⟨a, xs, rfl, ex_t o.h h1, by rw [h2.length, hl], h B H H1 σ xs o s h2 Q q⟩
theorem gxs_nil {Ψ : Rho → Mm → Prop} (k : Ψ ρ M) : GXs K gNil [] ρ M Ψ := fun B H H1 σ vs o s r Q q => by
  cases r
  exact ⟨rfl, q ρ M σ H H1 k o s (Ex.refl H)⟩
theorem gxs_cons {t : TG} {u : TGs} {d : Dt} {ds : List Dt} {Ψ : Rho → Mm → Prop} (h : GX K t d ρ M (fun ρ1 M1 => GXs K u ds ρ1 M1 Ψ)) : GXs K (gCons t u) (d :: ds) ρ M Ψ := fun B H H1 σ vs o s r Q q => by
  cases r with
  | cons r rr => exact ⟨_, _, rfl, h B H H1 σ _ o s r _ fun ρ' M' σ' H' H2 z k s' e => z B H' H2 σ' _ k s' (rr.mono e) Q fun ρ'' M'' σ'' H'' H3 z2 k2 s2 e2 => q ρ'' M'' σ'' H'' H3 z2 k2 s2 (e.trans e2)⟩
/-- o[i] = v, o a list that may change -/
theorem gx_sub {to ti : TE} {d : Dt} {Ψ : Rho → Mm → Prop} (h : EX K to ρ M (fun x M1 => EX K ti ρ M1 (fun y M2 => ∃ a xs k j, x = .raw (.ref a) ∧ y = .int k ∧ M2 a = some (.lst xs) ∧ ixN xs.length k = some j ∧ Ψ ρ (put M2 a (.lst (xs.set j d)))))) : GX K (gSub to ti rSetL) d ρ M Ψ := fun B H H1 σ v o s r Q q =>
  h B H H1 σ o s _ fun v1 x M1 H2 H3 z1 k1 e1 r1 => z1 B H2 H3 σ k1 (s.mono e1) _ fun v2 y M2 H4 H5 z2 k2 e2 r2 => by
    obtain ⟨a, xs, k, j, rfl, rfl, hm, hj, hk⟩ := z2
    obtain ⟨m1, m2, vs, m3, m4⟩ := k2.m a _ hm
    have r' : Rp K H4 v d := r.mono (e1.trans e2)
    exact ⟨a, vs, k, j, r1.raw_inv, r2.int_inv, m3, by rw [m4.length]; exact hj, q ρ _ σ H4 _ hk (k2.write hm ⟨_, upd_same, m4.set r' j⟩) (s.mono (e1.trans e2)) (e1.trans e2)⟩

/-! statements -/
theorem sx_next (k : E.nx ρ M) : SX K tNext ρ M E := fun B H H1 σ D o s r => r.nx ρ M σ H H1 k o s (Ex.refl H)
theorem sx_break (k : E.bk ρ M) : SX K tBreak ρ M E := fun B H H1 σ D o s r => r.bk ρ M σ H H1 k o s (Ex.refl H)
theorem sx_cont (k : E.ct ρ M) : SX K tCont ρ M E := fun B H H1 σ D o s r => r.ct ρ M σ H H1 k o s (Ex.refl H)
theorem sx_seq (h : SX K ts ρ M { E with nx := fun ρ' M' => SX K us ρ' M' E }) : SX K (tSeq ts us) ρ M E := fun B H H1 σ D o s r =>
  h B H H1 σ _ o s ⟨fun ρ' M' σ' H' H2 z k s' e => z B H' H2 σ' D k s' (r.mono e), r.rt, r.bk, r.ct⟩
theorem sx_asg (h : EX K te ρ M (fun d M1 => GX K g d ρ M1 E.nx)) : SX K (tAsg te g) ρ M E := fun B H H1 σ D o s r =>
  h B H H1 σ o s _ fun v d M' H' H2 z k e rv => z B H' H2 σ v k (s.mono e) rv _ fun ρ2 M2 σ2 H3 H4 z2 k2 s2 e2 => r.nx ρ2 M2 σ2 H3 H4 z2 k2 s2 (e.trans e2)
theorem sx_set {i : Nat} (h : EX K te ρ M (fun d M1 => E.nx (ρ.set i (some d)) M1)) : SX K (tAsg te (gName i)) ρ M E := sx_asg (h.mono fun d M' z => gx_name z)
theorem sx_drop (h : EX K te ρ M (fun _ M1 => E.nx ρ M1)) : SX K (tDrop te) ρ M E := fun B H H1 σ D o s r =>
  h B H H1 σ o s _ fun v d M' H' H2 z k e rv => r.nx ρ M' σ H' H2 z k (s.mono e) e
theorem sx_ret (h : EX K te ρ M E.rt) : SX K (tRet te) ρ M E := fun B H H1 σ D o s r => h B H H1 σ o s _ r.rt
theorem sx_retN (h : E.rt .non M) : SX K tRetN ρ M E := fun B H H1 σ D o s r => r.rt _ _ _ _ _ h o (Ex.refl H) .non
theorem sx_if (h : TX K t ρ M (fun b M1 => (b = true → SX K ts ρ M1 E) ∧ (b = false → SX K us ρ M1 E))) : SX K (tIfS t ts us) ρ M E := fun B H H1 σ D o s r =>
  h B H H1 σ o s _ fun b M' H' H2 z k e => by
    cases b with
    | true => exact iteT (z.1 rfl B H' H2 σ D k (s.mono e) (r.mono e))
    | false => exact iteF (z.2 rfl B H' H2 σ D k (s.mono e) (r.mono e))
theorem sx_never (h : False) : SX K tNever ρ M E := h.elim
theorem sx_par {i j : Nat} {ta : TA} (h : AX K ta ρ M (fun ds M1 => ∃ a b, ds = [a, b] ∧ E.nx ((ρ.set i (some a)).set j (some b)) M1)) : SX K (tPar i j ta) ρ M E := fun B H H1 σ D o s r =>
  h B H H1 σ o s _ fun vs ds M' H' H2 z k e rv => by
    obtain ⟨a, b, rfl, z⟩ := z
    cases rv with
    | cons r1 rv =>
      cases rv with
      | cons r2 rv =>
        cases rv
        exact ⟨_, _, rfl, r.nx _ _ _ H' H2 z k (((s.mono e).set r1).set r2) e⟩
theorem sx_while {m0 : Nat} (W : Nat → Rho → Mm → Prop) (h0 : W m0 ρ M)
    (hs : ∀ m ρ' M', W m ρ' M' → TX K t ρ' M' (fun b M1 => (b = true → SX K ts ρ' M1 { nx := fun ρ2 M2 => ∃ m', m' < m ∧ W m' ρ2 M2, rt := E.rt, ct := fun ρ2 M2 => ∃ m', m' < m ∧ W m' ρ2 M2, bk := E.nx }) ∧ (b = false → E.nx ρ' M1))) : SX K (tWhile t ts) ρ M E := fun B H H1 σ D o s r => by
  refine ⟨fun m σ' H2 => ∃ ρ' M' H', W m ρ' M' ∧ Ok K B H' H2 M' ∧ SlOk K H' σ' ρ' ∧ Ex H H', ⟨m0, ρ, M, H, h0, o, s, Ex.refl H⟩, ?_⟩
  rintro m σ' H2 ⟨ρ', M', H', w, k, s', e⟩
  refine hs m ρ' M' w B H' H2 σ' k s' _ fun b M1 H3 H4 z k1 e1 => ?_
  cases b with
  | false => exact iteF (r.nx ρ' M1 σ' H3 H4 (z.2 rfl) k1 (s'.mono e1) (e.trans e1))
  | true =>
    refine iteT ⟨fun σ2 H5 => ∃ ρ2 M2 H6, (∃ m', m' < m ∧ W m' ρ2 M2) ∧ Ok K B H6 H5 M2 ∧ SlOk K H6 σ2 ρ2 ∧ Ex H H6, ?_, ?_⟩
    · rintro σ2 H5 ⟨ρ2, M2, H6, ⟨m', hm, w'⟩, k2, s2, e2⟩
      exact ⟨m', hm, ρ2, M2, H6, w', k2, s2, e2⟩
    · refine z.1 rfl B H3 H4 σ' _ k1 (s'.mono e1) ⟨fun ρ2 M2 σ2 H6 H5 w2 k2 s2 e2 => ⟨ρ2, M2, H6, w2, k2, s2, (e.trans e1).trans e2⟩, fun v d M2 H6 H5 w2 k2 e2 r2 => r.rt v d M2 H6 H5 w2 k2 ((e.trans e1).trans e2) r2,
        fun ρ2 M2 σ2 H6 H5 w2 k2 s2 e2 => r.nx ρ2 M2 σ2 H6 H5 w2 k2 s2 ((e.trans e1).trans e2), fun ρ2 M2 σ2 H6 H5 w2 k2 s2 e2 => ⟨ρ2, M2, H6, w2, k2, s2, (e.trans e1).trans e2⟩⟩
end

/-! what a for walks -/
structure WalkD (K : PySem.W.Frag) (J : It) (G : Mm → Prop) (H' : Hp) (ys : List Dt) : Prop where
  goes : ∀ (i : Nat) (B H3 H4 : Hp) (M3 : Mm), i < ys.length → Ok K B H3 H4 M3 → Ex H' H3 → G M3 → J.go i H4
  stops : ∀ (B H3 H4 : Hp) (M3 : Mm), Ok K B H3 H4 M3 → Ex H' H3 → G M3 → J.stop ys.length H4
  yields : ∀ (i : Nat) (x : V) (H5 B H3 H4 : Hp) (M3 : Mm), i < ys.length → Ok K B H3 H4 M3 → Ex H' H3 → G M3 → J.yld i H4 x H5 →
    (H5 = H4 ∧ ∃ d, ys[i]? = some d ∧ Rp K H3 x d) ∨ (∃ T vs ds, x = .ref T ∧ H4 T = none ∧ H5 = upd H4 T (.tup vs) ∧ RpAll K H3 vs ds ∧ ys[i]? = some (.tup ds))
def IX (K : PySem.W.Frag) (wi : TI) (ρ : Rho) (M : Mm) (Ψ : List Dt → (Mm → Prop) → Mm → Prop) : Prop := ∀ (B H H1 : Hp) (σ : L2.St), Ok K B H H1 M → SlOk K H σ ρ → ∀ R : It → Hp → Prop,
  (∀ J ys G M' H' H2, Ψ ys G M' → Ok K B H' H2 M' → Ex H H' → WalkD K J G H' ys → R J H2) → wi σ H1 R
/-- a turn's item comes -/
theorem WalkD.item {K : PySem.W.Frag} {J : It} {G : Mm → Prop} {H' B H3 H4 H5 : Hp} {M3 : Mm} {ys : List Dt} {i : Nat} {x : V} (w : WalkD K J G H' ys) (hi : i < ys.length) (o : Ok K B H3 H4 M3) (e : Ex H' H3) (hg : G M3) (y : J.yld i H4 x H5) :
    ∃ d H6, ys[i]? = some d ∧ Rp K H6 x d ∧ Ok K B H6 H5 M3 ∧ Ex H3 H6 := by
  rcases w.yields i x H5 B H3 H4 M3 hi o e hg y with ⟨rfl, d, h1, h2⟩ | ⟨T, vs, ds, rfl, h1, rfl, h2, h3⟩
  · exact ⟨d, H3, h1, h2, o, Ex.refl _⟩
  · have e' : Ex H3 (upd H3 T (.tup vs)) := Ex.new (fresh_back o.h h1)
    exact ⟨.tup ds, upd H3 T (.tup vs), h3, .tup (st_of upd_same) (h2.mono e'), o.grow h1, e'⟩
section
variable {K : PySem.W.Frag} {ρ : Rho} {M : Mm} {Φ : Dt → Mm → Prop} {ta tb te tc : TE} {t u : TT} {ts us : TS} {E : Es} {g : TG} {wi : TI}
theorem sx_for (h : IX K wi ρ M (fun ys G M1 => ∃ I : Nat → Rho → Mm → Prop, I 0 ρ M1 ∧ (∀ i ρ' M', i ≤ ys.length → I i ρ' M' → G M') ∧
    (∀ i d ρ' M', ys[i]? = some d → I i ρ' M' → GX K g d ρ' M' (fun ρ2 M2 => SX K ts ρ2 M2 { nx := I (i + 1), rt := E.rt, ct := I (i + 1), bk := E.nx })) ∧ (∀ ρ' M', I ys.length ρ' M' → E.nx ρ' M'))) : SX K (tFor wi g ts) ρ M E := fun B H H1 σ D o s r =>
  h B H H1 σ o s _ fun J ys G M1 H' H2 z k e w => by
    obtain ⟨I, i0, ig, is, id⟩ := z
    refine ⟨fun i m σ3 H4 => m = ys.length - i ∧ i ≤ ys.length ∧ ∃ ρ' M' H3, I i ρ' M' ∧ Ok K B H3 H4 M' ∧ SlOk K H3 σ3 ρ' ∧ Ex H' H3, ⟨ys.length, by simp, Nat.zero_le _, ρ, M1, H', i0, k, s.mono e, Ex.refl _⟩, ?_⟩
    rintro i m σ3 H4 ⟨rfl, hi, ρ', M', H3, hI, k3, s3, e3⟩
    by_cases hlt : i < ys.length
    · refine .inr ⟨w.goes i B H3 H4 M' hlt k3 e3 (ig i ρ' M' hi hI), fun σ5 H6 => ∃ ρ5 M5 H5, I (i + 1) ρ5 M5 ∧ Ok K B H5 H6 M5 ∧ SlOk K H5 σ5 ρ5 ∧ Ex H' H5, ?_, fun x H5 y => ?_⟩
      · rintro σ5 H6 ⟨ρ5, M5, H5, q1, q2, q3, q4⟩
        exact ⟨ys.length - (i + 1), by omega, rfl, hlt, ρ5, M5, H5, q1, q2, q3, q4⟩
      · obtain ⟨d, H6, y1, y2, k6, e6⟩ := w.item hlt k3 e3 (ig i ρ' M' hi hI) y
        refine is i d ρ' M' y1 hI B H6 H5 σ3 x k6 (s3.mono e6) y2 _ fun ρ2 M2 σ2 H7 H8 z2 k7 s7 e7 => ?_
        refine z2 B H7 H8 σ2 _ k7 s7 ⟨fun ρ5 M5 σ5 H9 H10 q k9 s9 e9 => ⟨ρ5, M5, H9, q, k9, s9, ((e3.trans e6).trans e7).trans e9⟩, fun v d M5 H9 H10 q k9 e9 r9 => r.rt v d M5 H9 H10 q k9 ((((e.trans e3).trans e6).trans e7).trans e9) r9,
          fun ρ5 M5 σ5 H9 H10 q k9 s9 e9 => r.nx ρ5 M5 σ5 H9 H10 q k9 s9 ((((e.trans e3).trans e6).trans e7).trans e9), fun ρ5 M5 σ5 H9 H10 q k9 s9 e9 => ⟨ρ5, M5, H9, q, k9, s9, ((e3.trans e6).trans e7).trans e9⟩⟩
    · have hz : i = ys.length := by omega
      subst hz
      exact .inl ⟨w.stops B H3 H4 M' k3 e3 (ig _ ρ' M' hi hI), r.nx ρ' M' σ3 H3 H4 (id ρ' M' hI) k3 s3 (e.trans e3)⟩

/-! comprehensions -/
def wipeR (ρ : Rho) (vs : List Nat) : Rho := vs.foldr (fun v r => r.set v none) ρ
theorem SlOk.wipe' {H : Hp} {σ : L2.St} (s : SlOk K H σ ρ) (vs : List Nat) : SlOk K H (L2.wipe σ vs) (wipeR ρ vs) := s.wipe vs
/-- a target that stores the slots vs alone -/
def GWipe (g : TG) (vs : List Nat) : Prop := ∀ (v : V) (σ0 σ : L2.St) (H : Hp) (k : L2.St → Hp → Prop), L2.wipe σ vs = L2.wipe σ0 vs → g v σ H k → g v σ H (fun σ2 H2 => L2.wipe σ2 vs = L2.wipe σ0 vs ∧ k σ2 H2)
def GWipes (g : TGs) (vs : List Nat) : Prop := ∀ (us : List V) (σ0 σ : L2.St) (H : Hp) (k : L2.St → Hp → Prop), L2.wipe σ vs = L2.wipe σ0 vs → g us σ H k → g us σ H (fun σ2 H2 => L2.wipe σ2 vs = L2.wipe σ0 vs ∧ k σ2 H2)
theorem wipe_get {σ : L2.St} : ∀ {vs : List Nat} {i : Nat}, (L2.wipe σ vs)[i]? = if i ∈ vs then (if i < σ.length then some none else none) else σ[i]?
  | [], i => by simp [L2.wipe]
  | v :: vs, i => by
    have ih := wipe_get (σ := σ) (vs := vs) (i := i)
    unfold L2.wipe
    by_cases hv : v = i
    · subst hv
      have hl := wipe_length σ vs
      by_cases hh : v < σ.length
      · rw [List.getElem?_set_self (by omega)]
        simp [hh]
      · rw [List.getElem?_eq_none (by rw [List.length_set]; omega)]
        simp [hh]
    · rw [List.getElem?_set_ne hv, ih]
      have : (i ∈ v :: vs) ↔ (i ∈ vs) := by
        rw [List.mem_cons]
        exact ⟨fun h => h.elim (fun z => absurd z.symm hv) id, Or.inr⟩
      simp only [this]
theorem wipe_set {σ : L2.St} {vs : List Nat} {j : Nat} {x : Option V} (hj : j ∈ vs) : L2.wipe (σ.set j x) vs = L2.wipe σ vs := by
  apply List.ext_getElem?
  intro i
  rw [wipe_get, wipe_get, List.length_set]
  by_cases hi : i ∈ vs
  · rw [if_pos hi, if_pos hi]
  · rw [if_neg hi, if_neg hi, List.getElem?_set_ne (fun (z : j = i) => hi (by rw [← z]; exact hj))]
theorem wipe_wipe {σ : L2.St} {vs : List Nat} : L2.wipe (L2.wipe σ vs) vs = L2.wipe σ vs := by
  apply List.ext_getElem?
  intro i
  rw [wipe_get]
  by_cases hi : i ∈ vs
  · rw [if_pos hi, wipe_get, if_pos hi, wipe_length]
  · rw [if_neg hi]
theorem gw_name {i : Nat} {vs : List Nat} (hi : i ∈ vs) : GWipe (gName i) vs := fun v σ0 σ H k e h => ⟨(wipe_set hi).trans e, h⟩
theorem gw_nil {vs : List Nat} : GWipes gNil vs := fun us σ0 σ H k e h => ⟨h.1, e, h.2⟩
theorem gw_cons {vs : List Nat} {t : TG} {u : TGs} (h1 : GWipe t vs) (h2 : GWipes u vs) (hm : ∀ v σ H (k k' : L2.St → Hp → Prop), (∀ σ2 H2, k σ2 H2 → k' σ2 H2) → t v σ H k → t v σ H k') : GWipes (gCons t u) vs := fun us σ0 σ H k e h => by
  obtain ⟨v, r, e1, h⟩ := h
  refine ⟨v, r, e1, ?_⟩
  have q := h1 v σ0 σ H _ e h
  exact hm v σ H _ _ (fun σ2 H2 z => h2 r σ0 σ2 H2 k z.1 z.2) q
theorem gm_name {i : Nat} : ∀ v σ H (k k' : L2.St → Hp → Prop), (∀ σ2 H2, k σ2 H2 → k' σ2 H2) → gName i v σ H k → gName i v σ H k' := fun _ _ _ _ _ h x => h _ _ x
theorem gw_tup {n : Nat} {vs : List Nat} {t : TGs} (h : GWipes t vs) : GWipe (gTup K n t) vs := fun v σ0 σ H k e q => by
  obtain ⟨a, xs, e1, e2, e3, q⟩ := q
  exact ⟨a, xs, e1, e2, e3, h xs σ0 σ H k e q⟩
theorem ex_lc {vs : List Nat} (hw : GWipe g vs) (h : IX K wi ρ M (fun ys G M1 => ys.length < sizeLine ∧ ∃ I : Nat → List Dt → Mm → Prop, I 0 [] M1 ∧ (∀ i acc M', i ≤ ys.length → I i acc M' → G M') ∧
    (∀ i d acc M', ys[i]? = some d → I i acc M' → acc.length ≤ i → GX K g d (wipeR ρ vs) M' (fun ρ2 M2 => TX K t ρ2 M2 (fun b M3 => (b = true → EX K te ρ2 M3 (fun y M4 => I (i + 1) (acc ++ [y]) M4)) ∧ (b = false → I (i + 1) acc M3)))) ∧
    (∀ acc M', I ys.length acc M' → acc.length ≤ ys.length → Φ (.lst acc) M'))) : EX K (tLc wi g t te vs) ρ M Φ := fun B H H1 σ o s Q q =>
  h B H H1 σ o s _ fun J ys G M1 H' H2 z k e w D hD => by
    obtain ⟨hz, I, i0, ig, is, id⟩ := z
    have hB : B D = none := fresh_back k.b hD
    have hH : H' D = none := fresh_back k.h hD
    -- the state of a turn: the list at D stands aside
    refine ⟨fun i m H4 => m = ys.length - i ∧ i ≤ ys.length ∧ ∃ acc us M' H3, I i acc M' ∧ acc.length ≤ i ∧ H4 D = some (.lst us) ∧ RpAll K H3 us acc ∧ Ok K (upd B D (.lst us)) H3 H4 M' ∧ Ex H' H3, ⟨ys.length, by simp, Nat.zero_le _, [], [], M1, H', i0, Nat.le_refl _, upd_same, .nil, ?_, Ex.refl _⟩, ?_⟩
    · refine ⟨fun a u ea => ?_, fun a u ea => ?_, k.h.trans (Ex.new hD), fun a c ea => ?_⟩
      · by_cases hc : a = D
        · rw [hc] at ea ⊢
          rw [upd_same] at ea ⊢
          exact ea
        · rw [upd_ne hc] at ea ⊢
          exact k.b a u ea
      · by_cases hc : a = D
        · rw [hc]
          exact hH
        · rw [upd_ne hc] at ea
          exact k.bh a u ea
      · obtain ⟨m1, m2, m3⟩ := k.m a c ea
        obtain ⟨u, hu⟩ := m3.there
        have hc : a ≠ D := ne_of_none hu hD
        exact ⟨by rw [upd_ne hc]; exact m1, m2, m3.mono (Ex.refl _) (upd_ne hc)⟩
    rintro i m H4 ⟨rfl, hi, acc, us, M', H3, hI, hal, hd, ra, k3, e3⟩
    by_cases hlt : i < ys.length
    · refine .inr ⟨w.goes i _ H3 H4 M' hlt k3 e3 (ig i acc M' hi hI), fun H6 => ∃ acc us M' H3, I (i + 1) acc M' ∧ acc.length ≤ i + 1 ∧ H6 D = some (.lst us) ∧ RpAll K H3 us acc ∧ Ok K (upd B D (.lst us)) H3 H6 M' ∧ Ex H' H3, ?_, fun x H5 y => ?_⟩
      · rintro H6 ⟨acc, us, M', H3, q1, q2, q3, q4, q5, q6⟩
        exact ⟨ys.length - (i + 1), by omega, rfl, hlt, acc, us, M', H3, q1, q2, q3, q4, q5, q6⟩
      · obtain ⟨d, H6, y1, y2, k6, e6⟩ := w.item hlt k3 e3 (ig i acc M' hi hI) y
        have q0 := is i d acc M' y1 hI hal _ H6 H5 (L2.wipe σ vs) x k6 (((s.mono e).mono (e3.trans e6)).wipe' vs) y2 (fun σ2 H2 => t σ2 H2 fun b H3 =>
            if b = true then te σ2 H3 fun y H4 => ∃ acc, H4 D = some (.lst acc) ∧ acc.length < sizeLine ∧ (fun H6 => ∃ acc us M' H3, I (i + 1) acc M' ∧ acc.length ≤ i + 1 ∧ H6 D = some (.lst us) ∧ RpAll K H3 us acc ∧ Ok K (upd B D (.lst us)) H3 H6 M' ∧ Ex H' H3) (upd H4 D (.lst (acc ++ [y])))
            else (fun H6 => ∃ acc us M' H3, I (i + 1) acc M' ∧ acc.length ≤ i + 1 ∧ H6 D = some (.lst us) ∧ RpAll K H3 us acc ∧ Ok K (upd B D (.lst us)) H3 H6 M' ∧ Ex H' H3) H3)
          (fun ρ2 M2 σ2 H7 H8 z2 k7 s7 e7 => by
            refine z2 _ H7 H8 σ2 k7 s7 _ fun b M3 H9 H10 z3 k9 e9 => ?_
            cases b with
            | false => exact iteF ⟨acc, us, M3, H9, z3.2 rfl, by omega, k9.b D _ upd_same, ra.mono ((e6.trans e7).trans e9), k9, ((e3.trans e6).trans e7).trans e9⟩
            | true =>
              refine iteT (z3.1 rfl _ H9 H10 σ2 k9 (s7.mono e9) _ fun v y M4 H11 H12 z4 k11 e11 r11 => ?_)
              have hl : us.length = acc.length := ra.length
              have hD11 : H11 D = none := k11.bh D _ upd_same
              refine ⟨us, k11.b D _ upd_same, by omega, acc ++ [y], us ++ [v], M4, H11, z4, by rw [List.length_append, List.length_singleton]; omega, upd_same, (ra.mono (((e6.trans e7).trans e9).trans e11)).append (.one r11), ?_, (((e3.trans e6).trans e7).trans e9).trans e11⟩
              refine ⟨fun a u ea => ?_, fun a u ea => ?_, k11.h.mut hD11, fun a c ea => ?_⟩
              · by_cases hc : a = D
                · rw [hc] at ea ⊢
                  rw [upd_same] at ea ⊢
                  exact ea
                · rw [upd_ne hc] at ea ⊢
                  exact k11.b a u (by rw [upd_ne hc]; exact ea)
              · by_cases hc : a = D
                · rw [hc]
                  exact hD11
                · rw [upd_ne hc] at ea
                  exact k11.bh a u (by rw [upd_ne hc]; exact ea)
              · obtain ⟨m1, m2, m3⟩ := k11.m a c ea
                have hc : a ≠ D := fun zz => by
                  rw [zz, upd_same] at m1
                  cases m1
                rw [upd_ne hc] at m1
                exact ⟨by rw [upd_ne hc]; exact m1, m2, m3.mono (Ex.refl _) (upd_ne hc)⟩)
        exact hw x σ (L2.wipe σ vs) H5 _ wipe_wipe q0
    · have hzz : i = ys.length := by omega
      subst hzz
      refine .inl ⟨w.stops _ H3 H4 M' k3 e3 (ig _ acc M' hi hI), ?_⟩
      have hD3 : H3 D = none := k3.bh D _ upd_same
      have e' : Ex H3 (upd H3 D (.lst us)) := Ex.new hD3
      refine q (.ref D) (.lst acc) M' (upd H3 D (.lst us)) H4 (id acc M' hI hal) ⟨fun a u ea => ?_, fun a u ea => ?_, fun a u ea => ?_, fun a c ea => ?_⟩ ((e.trans e3).trans e') (.lst upd_same (ra.mono e'))
      · have hc : a ≠ D := ne_of_none ea hB
        exact k3.b a u (by rw [upd_ne hc]; exact ea)
      · have hc : a ≠ D := ne_of_none ea hB
        rw [upd_ne hc]
        exact k3.bh a u (by rw [upd_ne hc]; exact ea)
      · by_cases hc : a = D
        · rw [hc] at ea ⊢
          rw [upd_same] at ea
          rw [hd]
          exact ea
        · rw [upd_ne hc] at ea
          exact k3.h a u ea
      · obtain ⟨m1, m2, m3⟩ := k3.m a c ea
        have hc : a ≠ D := fun zz => by
          rw [zz, upd_same] at m1
          cases m1
        rw [upd_ne hc] at m1
        exact ⟨m1, by rw [upd_ne hc]; exact m2, m3.mono e' rfl⟩
end
end Wk
/-! ## WkC -/
namespace Wk
open PySem L2 Evl

/-! data that == compares -/
mutual
def toP : Dt → PyData
  | .non => .none
  | .bl b => .bool b
  | .int i => .int i
  | .str x => .str x
  | .lst xs => .list (toPs xs)
  | .frl xs => .list (toPs xs)
  | .tup xs => .tuple (toPs xs)
  | .obj _ _ => .none
  | .raw _ => .none
  | .exc _ _ _ => .none
def toPs : List Dt → List PyData
  | [] => []
  | x :: xs => toP x :: toPs xs
end
mutual
/-- plain data, at most so deep -/
def plain : Nat → Dt → Bool
  | _, .non => true
  | _, .bl _ => true
  | _, .int _ => true
  | _, .str x => PySem.PyData.canLay0 (.str x)
  | n, .lst xs => (n != 0) && plains (n - 1) xs
  | n, .frl xs => (n != 0) && plains (n - 1) xs
  | n, .tup xs => (n != 0) && plains (n - 1) xs
  | _, .obj _ _ => false
  | _, .raw _ => false
  | _, .exc _ _ _ => false
def plains : Nat → List Dt → Bool
  | _, [] => true
  | n, x :: xs => plain n x && plains n xs
end
section
variable {K : PySem.W.Frag} {H : Hp}
mutual
theorem dp_of : ∀ {n : Nat} {v : V} {d : Dt}, Rp K H v d → plain n d = true → Dp K H v (toP d)
  | _, _, _, .non, _ => by rw [toP]; exact .non
  | _, _, _, .bl b, _ => by rw [toP]; exact .bl b
  | _, _, _, .int i, _ => by rw [toP]; exact .int i
  | _, _, _, .str x, _ => by rw [toP]; exact .str x
  | n, _, _, .lst h r, p => by
    rw [toP]
    unfold plain at p
    exact .lst (sq_of h) (dps_of r (Bool.and_eq_true_iff.mp p).2)
  | n, _, _, .frl h r, p => by
    rw [toP]
    unfold plain at p
    exact .lst h (dps_of r (Bool.and_eq_true_iff.mp p).2)
  | n, _, _, .tup h r, p => by
    rw [toP]
    unfold plain at p
    exact .tup h (dps_of r (Bool.and_eq_true_iff.mp p).2)
  | _, _, _, .obj h r, p => by
    unfold plain at p
    cases p
  | _, _, _, .raw v, p => by
    unfold plain at p
    cases p
  | _, _, _, .exc h r, p => by
    unfold plain at p
    cases p
theorem dps_of : ∀ {n : Nat} {vs : List V} {ds : List Dt}, RpAll K H vs ds → plains n ds = true → DpAll K H vs (toPs ds)
  | _, _, _, .nil, _ => by rw [toPs]; exact .nil
  | n, _, _, .cons h r, p => by
    rw [toPs]
    unfold plains at p
    have q := Bool.and_eq_true_iff.mp p
    exact .cons (dp_of h q.1) (dps_of r q.2)
end
end
mutual
theorem shaped_of : ∀ {n : Nat} {d : Dt}, plain n d = true → (toP d).canLay0 = true ∧ (toP d).depth ≤ n
  | n, .non, _ => by rw [toP]; exact ⟨by unfold PyData.canLay0; rfl, by unfold PyData.depth; exact Nat.zero_le _⟩
  | n, .bl b, _ => by rw [toP]; exact ⟨by unfold PyData.canLay0; rfl, by unfold PyData.depth; exact Nat.zero_le _⟩
  | n, .int i, _ => by rw [toP]; exact ⟨by unfold PyData.canLay0; rfl, by unfold PyData.depth; exact Nat.zero_le _⟩
  | n, .str x, p => by
    rw [toP]
    unfold plain at p
    exact ⟨p, by unfold PyData.depth; exact Nat.zero_le _⟩
  | n, .lst xs, p => by
    rw [toP]
    unfold plain at p
    have q := Bool.and_eq_true_iff.mp p
    have h := shaped_ofs q.2
    have hn : n ≠ 0 := by simpa using q.1
    exact ⟨by unfold PyData.canLay0; exact h.1, by unfold PyData.depth; omega⟩
  | n, .frl xs, p => by
    rw [toP]
    unfold plain at p
    have q := Bool.and_eq_true_iff.mp p
    have h := shaped_ofs q.2
    have hn : n ≠ 0 := by simpa using q.1
    exact ⟨by unfold PyData.canLay0; exact h.1, by unfold PyData.depth; omega⟩
  | n, .tup xs, p => by
    rw [toP]
    unfold plain at p
    have q := Bool.and_eq_true_iff.mp p
    have h := shaped_ofs q.2
    have hn : n ≠ 0 := by simpa using q.1
    exact ⟨by unfold PyData.canLay0; exact h.1, by unfold PyData.depth; omega⟩
  | n, .obj _ _, p => by
    unfold plain at p
    cases p
  | n, .raw _, p => by
    unfold plain at p
    cases p
  | n, .exc _ _ _, p => by
    unfold plain at p
    cases p
theorem shaped_ofs : ∀ {n : Nat} {ds : List Dt}, plains n ds = true → PyData.canLayAll0 (toPs ds) = true ∧ PyData.depthAll (toPs ds) ≤ n
  | n, [], _ => by rw [toPs]; exact ⟨by unfold PyData.canLayAll0; rfl, by unfold PyData.depthAll; exact Nat.zero_le _⟩
  | n, x :: xs, p => by
    rw [toPs]
    unfold plains at p
    have q := Bool.and_eq_true_iff.mp p
    have h1 := shaped_of q.1
    have h2 := shaped_ofs q.2
    exact ⟨by unfold PyData.canLayAll0; rw [h1.1, h2.1] <;> rfl, by unfold PyData.depthAll; omega⟩
end
theorem shaped_by {d : Dt} (h : plain 60 d = true) : SeqAt.shaped (toP d) = true := by
  have q := shaped_of h
  unfold SeqAt.shaped
  rw [q.1, Bool.true_and]
  exact decide_eq_true (by omega)
def eqB (x y : Dt) : Bool := PyData.eqv (toP x) (toP y)

/-! operators, whatever they are given -/
def CPowW (i j : Int) : Prop := 0 ≤ j ∧ (Builtin.Int.intBits i : Int) * j ≤ 2 ^ 27
def rAddA (K : PySem.W.Frag) : R2 := fun x y H Q => rI0 (fun i j => .int (i + j)) x y H Q ∨ (∃ i j, x = .str i ∧ y = .str j ∧ i.length + j.length ≤ sizeLine ∧ Q (.str (i ++ j)) H) ∨ rCatA K x y H Q ∨ rCat x y H Q
def rMulA (K : PySem.W.Frag) : R2 := fun x y H Q => rI CMulW (fun i j => .int (i * j)) x y H Q ∨ rI CMul (fun i j => .int (i * j)) x y H Q ∨ rRep x y H Q ∨ rRepT K x y H Q
def rEqA (K : PySem.W.Frag) : R2 := fun x y H Q => rEq x y H Q ∨ rEqD K x y H Q
def rNeA (K : PySem.W.Frag) : R2 := fun x y H Q => rNe x y H Q ∨ rNeD K x y H Q
def rSlAny (K : PySem.W.Frag) : V → Option Int → Option Int → Hp → VK → Prop := fun x lo hi H Q => rSlL K x lo hi H Q ∨ rSlA K x lo hi H Q ∨ rSlS x lo hi H Q
def rLenA (K : PySem.W.Frag) : List V → Hp → VK → Prop := fun xs H Q => (∃ p ys, xs = [.ref p] ∧ (SqL K H p ys ∨ SqT K H p ys) ∧ Q (.int ys.length) H) ∨ (∃ z, xs = [.str z] ∧ z.length ≤ sizeLine ∧ Q (.int z.length) H)
section
variable {X : Cx}
theorem op_addA : OpR X (binaryOp .Add) (rAddA X.K) := op_add.or (op_add_str.or (op_catA.or op_cat))
theorem op_powW : OpR X (binaryOp .Pow) (rI CPowW fun i j => .int (i ^ j.toNat)) := opI fun _ _ _ _ _ _ _ hc q => PyProof.Rows.pow_int hc.1 hc.2 q
theorem op_mulA : OpR X (binaryOp .Mult) (rMulA X.K) := op_mulW.or (op_mul.or (op_rep.or op_repT))
theorem op_eqA (hu : X.A.units + 64 < cLine) : OpR X (compareOp .Eq) (rEqA X.K) := op_eq.or (op_eqD hu)
theorem op_neA (hu : X.A.units + 64 < cLine) : OpR X (compareOp .NotEq) (rNeA X.K) := op_ne.or (op_neD hu)
theorem sl_any : SlR X (rSlAny X.K) := sl_list.or (sl_tupA.or sl_str)
theorem call_lenA : CallR X (.builtin "len") (rLenA X.K) := call_len_seq.or call_len_str
end

section
variable {K : PySem.W.Frag} {M : Mm} {Φ : Dt → Mm → Prop}
theorem rx_done {r : R2} {x y : Dt} {z : V} {d : Dt} (h : ∀ H vx vy Q, Rp K H vx x → Rp K H vy y → Q z H → r vx vy H Q) (hr : ∀ H, Rp K H z d) (k : Φ d M) : RX K r x y M Φ := fun B H H1 vx vy o rx ry Q q =>
  h H1 vx vy Q (rx.mono o.h) (ry.mono o.h) (q z d M H H1 k o (Ex.refl H) (hr H))
/-- ints -/
theorem rx_I0i {g : Int → Int → Int} {i j : Int} (k : Φ (.int (g i j)) M) : RX K (rI0 fun i j => .int (g i j)) (.int i) (.int j) M Φ := rx_done (fun H vx vy Q rx ry q => ⟨i, j, rx.int_inv, ry.int_inv, q⟩) (fun _ => .int _) k
theorem rx_I0b {g : Int → Int → Bool} {i j : Int} (k : Φ (.bl (g i j)) M) : RX K (rI0 fun i j => .bl (g i j)) (.int i) (.int j) M Φ := rx_done (fun H vx vy Q rx ry q => ⟨i, j, rx.int_inv, ry.int_inv, q⟩) (fun _ => .bl _) k
theorem rx_Ii {C : Int → Int → Prop} {g : Int → Int → Int} {i j : Int} (hc : C i j) (k : Φ (.int (g i j)) M) : RX K (rI C fun i j => .int (g i j)) (.int i) (.int j) M Φ := rx_done (fun H vx vy Q rx ry q => ⟨i, j, rx.int_inv, ry.int_inv, hc, q⟩) (fun _ => .int _) k
theorem rx_add_int {i j : Int} (k : Φ (.int (i + j)) M) : RX K (rAddA K) (.int i) (.int j) M Φ := rx_done (fun H vx vy Q rx ry q => .inl ⟨i, j, rx.int_inv, ry.int_inv, q⟩) (fun _ => .int _) k
theorem rx_add_str {i j : Str} (hl : i.length + j.length ≤ sizeLine) (k : Φ (.str (i ++ j)) M) : RX K (rAddA K) (.str i) (.str j) M Φ := rx_done (fun H vx vy Q rx ry q => .inr (.inl ⟨i, j, rx.str_inv, ry.str_inv, hl, q⟩)) (fun _ => .str _) k
theorem rx_add_tup {xs ys : List Dt} (hl : xs.length + ys.length ≤ sizeLine) (k : Φ (.tup (xs ++ ys)) M) : RX K (rAddA K) (.tup xs) (.tup ys) M Φ := fun B H H1 vx vy o rx ry Q q => by
  obtain ⟨a, us, rfl, h1, r1⟩ := rx.tup_inv
  obtain ⟨b, ws, rfl, h2, r2⟩ := ry.tup_inv
  refine .inr (.inr (.inl ⟨a, b, us, ws, rfl, rfl, ex_t o.h h1, ex_t o.h h2, by rw [r1.length, r2.length]; exact hl, fun e => ?_, fun _ e => ?_, fun _ _ p hp => ?_⟩))
  · have ex : xs = [] := List.length_eq_zero_iff.mp (by rw [← r1.length, e] <;> rfl)
    refine q _ _ M H H1 k o (Ex.refl H) ?_
    rw [ex]
    exact .tup h2 r2
  · have ex : ys = [] := List.length_eq_zero_iff.mp (by rw [← r2.length, e] <;> rfl)
    refine q _ _ M H H1 k o (Ex.refl H) ?_
    rw [ex, List.append_nil]
    exact .tup h1 r1
  · have e := Ex.new (o := .tup (us ++ ws)) (fresh_back o.h hp)
    exact q _ _ M _ _ k (o.grow hp) e (.tup (st_of upd_same) ((r1.append r2).mono e))
theorem rx_add_lst {xs ys : List Dt} (hl : xs.length + ys.length ≤ sizeLine) (k : Φ (.lst (xs ++ ys)) M) : RX K (rAddA K) (.lst xs) (.lst ys) M Φ := fun B H H1 vx vy o rx ry Q q => by
  obtain ⟨a, us, rfl, h1, r1⟩ := rx.lst_inv
  obtain ⟨b, ws, rfl, h2, r2⟩ := ry.lst_inv
  refine .inr (.inr (.inr ⟨a, b, us, ws, rfl, rfl, o.h _ _ h1, o.h _ _ h2, by rw [r1.length, r2.length]; exact hl, fun p hp => ?_⟩))
  have e := Ex.new (o := .lst (us ++ ws)) (fresh_back o.h hp)
  exact q _ _ M _ _ k (o.grow hp) e (.lst upd_same ((r1.append r2).mono e))
/-- a list that may change + data -/
theorem rx_add_cl {a : Addr} {xs ys : List Dt} (hm : M a = some (.lst xs)) (hl : xs.length + ys.length ≤ sizeLine) (k : Φ (.lst (xs ++ ys)) M) : RX K (rAddA K) (.raw (.ref a)) (.lst ys) M Φ := fun B H H1 vx vy o rx ry Q q => by
  obtain ⟨b, ws, rfl, h2, r2⟩ := ry.lst_inv
  obtain ⟨m1, m2, us, h1, r1⟩ := o.m a _ hm
  refine .inr (.inr (.inr ⟨a, b, us, ws, rx.raw_inv, rfl, h1, o.h _ _ h2, by rw [r1.length, r2.length]; exact hl, fun p hp => ?_⟩))
  have e := Ex.new (o := .lst (us ++ ws)) (fresh_back o.h hp)
  exact q _ _ M _ _ k (o.grow hp) e (.lst upd_same ((r1.append r2).mono e))
theorem rx_mul_int {i j : Int} (hc : CMulW i j ∨ CMul i j) (k : Φ (.int (i * j)) M) : RX K (rMulA K) (.int i) (.int j) M Φ := rx_done (fun H vx vy Q rx ry q => hc.elim (fun hc => .inl ⟨i, j, rx.int_inv, ry.int_inv, hc, q⟩) fun hc => .inr (.inl ⟨i, j, rx.int_inv, ry.int_inv, hc, q⟩)) (fun _ => .int _) k
theorem rx_eq_int {i j : Int} (k : Φ (.bl (decide (i = j))) M) : RX K (rEqA K) (.int i) (.int j) M Φ := rx_done (z := .bl (decide (V.int i = V.int j))) (fun H vx vy Q rx ry q => .inl ⟨by rw [rx.int_inv, ry.int_inv]; rfl, by rw [rx.int_inv, ry.int_inv]; exact q⟩) (fun _ => by
  have e : decide (V.int i = V.int j) = decide (i = j) := decide_eq_decide.mpr ⟨fun e => by injection e, fun e => by rw [e]⟩
  rw [e]
  exact .bl _) k
theorem rx_ne_int {i j : Int} (k : Φ (.bl (!decide (i = j))) M) : RX K (rNeA K) (.int i) (.int j) M Φ := rx_done (z := .bl (!decide (V.int i = V.int j))) (fun H vx vy Q rx ry q => .inl ⟨by rw [rx.int_inv, ry.int_inv]; rfl, by rw [rx.int_inv, ry.int_inv]; exact q⟩) (fun _ => by
  have e : decide (V.int i = V.int j) = decide (i = j) := decide_eq_decide.mpr ⟨fun e => by injection e, fun e => by rw [e]⟩
  rw [e]
  exact .bl _) k
theorem rx_eq_str {i j : Str} (k : Φ (.bl (decide (i = j))) M) : RX K (rEqA K) (.str i) (.str j) M Φ := rx_done (z := .bl (decide (V.str i = V.str j))) (fun H vx vy Q rx ry q => .inl ⟨by rw [rx.str_inv, ry.str_inv]; rfl, by rw [rx.str_inv, ry.str_inv]; exact q⟩) (fun _ => by
  have e : decide (V.str i = V.str j) = decide (i = j) := decide_eq_decide.mpr ⟨fun e => by injection e, fun e => by rw [e]⟩
  rw [e]
  exact .bl _) k
theorem rx_ne_str {i j : Str} (k : Φ (.bl (!decide (i = j))) M) : RX K (rNeA K) (.str i) (.str j) M Φ := rx_done (z := .bl (!decide (V.str i = V.str j))) (fun H vx vy Q rx ry q => .inl ⟨by rw [rx.str_inv, ry.str_inv]; rfl, by rw [rx.str_inv, ry.str_inv]; exact q⟩) (fun _ => by
  have e : decide (V.str i = V.str j) = decide (i = j) := decide_eq_decide.mpr ⟨fun e => by injection e, fun e => by rw [e]⟩
  rw [e]
  exact .bl _) k
theorem rx_eq_bl {i j : Bool} (k : Φ (.bl (decide (i = j))) M) : RX K (rEqA K) (.bl i) (.bl j) M Φ := rx_done (z := .bl (decide (V.bl i = V.bl j))) (fun H vx vy Q rx ry q => .inl ⟨by rw [rx.bl_inv, ry.bl_inv]; rfl, by rw [rx.bl_inv, ry.bl_inv]; exact q⟩) (fun _ => by
  have e : decide (V.bl i = V.bl j) = decide (i = j) := decide_eq_decide.mpr ⟨fun e => by injection e, fun e => by rw [e]⟩
  rw [e]
  exact .bl _) k
theorem rx_ne_bl {i j : Bool} (k : Φ (.bl (!decide (i = j))) M) : RX K (rNeA K) (.bl i) (.bl j) M Φ := rx_done (z := .bl (!decide (V.bl i = V.bl j))) (fun H vx vy Q rx ry q => .inl ⟨by rw [rx.bl_inv, ry.bl_inv]; rfl, by rw [rx.bl_inv, ry.bl_inv]; exact q⟩) (fun _ => by
  have e : decide (V.bl i = V.bl j) = decide (i = j) := decide_eq_decide.mpr ⟨fun e => by injection e, fun e => by rw [e]⟩
  rw [e]
  exact .bl _) k
/-- == of data -/
theorem rx_eqD {x y : Dt} (hx : plain 60 x = true) (hy : plain 60 y = true) (k : Φ (.bl (eqB x y)) M) : RX K (rEqA K) x y M Φ := rx_done (fun H vx vy Q rx ry q => .inr ⟨toP x, toP y, dp_of rx hx, dp_of ry hy, shaped_by hx, shaped_by hy, q⟩) (fun _ => .bl _) k
theorem rx_neD {x y : Dt} (hx : plain 60 x = true) (hy : plain 60 y = true) (k : Φ (.bl (!eqB x y)) M) : RX K (rNeA K) x y M Φ := rx_done (fun H vx vy Q rx ry q => .inr ⟨toP x, toP y, dp_of rx hx, dp_of ry hy, shaped_by hx, shaped_by hy, q⟩) (fun _ => .bl _) k

/-! items, slices, len -/
theorem atI_get {vs : List V} {ds : List Dt} {H : Hp} {i : Int} {d : Dt} (r : RpAll K H vs ds) (h : atI ds i = some d) : ∃ v, atI vs i = some v ∧ Rp K H v d := by
  unfold atI at h ⊢
  rw [r.length]
  cases e : ixN ds.length i with
  | none =>
    rw [e] at h
    cases h
  | some j =>
    rw [e] at h
    exact r.get h
theorem rx_ix_lst {xs : List Dt} {i : Int} {d : Dt} (h : atI xs i = some d) (k : Φ d M) : RX K (rIx K) (.lst xs) (.int i) M Φ := fun B H H1 vx vy o rx ry Q q => by
  obtain ⟨a, us, rfl, h1, r1⟩ := rx.lst_inv
  obtain ⟨v, h2, r2⟩ := atI_get r1 h
  exact .inl ⟨a, us, i, v, rfl, ry.int_inv, sq_of (o.h _ _ h1), h2, q v d M H H1 k o (Ex.refl H) r2⟩
theorem rx_ix_frl {xs : List Dt} {i : Int} {d : Dt} (h : atI xs i = some d) (k : Φ d M) : RX K (rIx K) (.frl xs) (.int i) M Φ := fun B H H1 vx vy o rx ry Q q => by
  obtain ⟨a, us, rfl, h1, r1⟩ := rx.frl_inv
  obtain ⟨v, h2, r2⟩ := atI_get r1 h
  exact .inl ⟨a, us, i, v, rfl, ry.int_inv, ex_l o.h h1, h2, q v d M H H1 k o (Ex.refl H) r2⟩
theorem rx_ix_cell {a : Addr} {xs : List Dt} {i : Int} {d : Dt} (hm : M a = some (.lst xs)) (h : atI xs i = some d) (k : Φ d M) : RX K (rIx K) (.raw (.ref a)) (.int i) M Φ := fun B H H1 vx vy o rx ry Q q => by
  obtain ⟨m1, m2, us, h1, r1⟩ := o.m a _ hm
  obtain ⟨v, h2, r2⟩ := atI_get r1 h
  exact .inl ⟨a, us, i, v, rx.raw_inv, ry.int_inv, sq_of h1, h2, q v d M H H1 k o (Ex.refl H) r2⟩
theorem rx_ix_tup {xs : List Dt} {i : Int} {d : Dt} (h : atI xs i = some d) (k : Φ d M) : RX K (rIx K) (.tup xs) (.int i) M Φ := fun B H H1 vx vy o rx ry Q q => by
  obtain ⟨a, us, rfl, h1, r1⟩ := rx.tup_inv
  obtain ⟨v, h2, r2⟩ := atI_get r1 h
  exact .inr (.inl ⟨a, us, i, v, rfl, ry.int_inv, ex_t o.h h1, h2, q v d M H H1 k o (Ex.refl H) r2⟩)
theorem rx_ix_str {z : Str} {i : Int} {c : Nat} (hl : z.length ≤ sizeLine) (h : atI z.cps.toList i = some c) (k : Φ (.str ⟨#[c]⟩) M) : RX K (rIx K) (.str z) (.int i) M Φ := rx_done (fun H vx vy Q rx ry q => .inr (.inr ⟨z, i, c, rx.str_inv, ry.int_inv, hl, h, q⟩)) (fun _ => .str _) k
def cutD (xs : List Dt) (lo hi : Option Int) : List Dt := (xs.drop (HT.sIx xs.length 0 lo)).take (HT.sIx xs.length xs.length hi - HT.sIx xs.length 0 lo)
theorem cut_rp {H : Hp} {vs : List V} {ds : List Dt} {lo hi : Option Int} (r : RpAll K H vs ds) : RpAll K H (cutV vs lo hi) (cutD ds lo hi) := by
  unfold cutV cutD
  rw [r.length]
  exact (r.drop _).take _
theorem lx_lst {xs : List Dt} {lo hi : Option Int} (k : Φ (.lst (cutD xs lo hi)) M) : LX K (rSlAny K) (.lst xs) lo hi M Φ := fun B H H1 vx o rx Q q => by
  obtain ⟨a, us, rfl, h1, r1⟩ := rx.lst_inv
  refine .inl ⟨a, us, rfl, sq_of (o.h _ _ h1), fun p hp => ?_⟩
  have e := Ex.new (o := .lst (cutV us lo hi)) (fresh_back o.h hp)
  exact q _ _ M _ _ k (o.grow hp) e (.lst upd_same ((cut_rp r1).mono e))
theorem lx_cell {a : Addr} {xs : List Dt} {lo hi : Option Int} (hm : M a = some (.lst xs)) (k : Φ (.lst (cutD xs lo hi)) M) : LX K (rSlAny K) (.raw (.ref a)) lo hi M Φ := fun B H H1 vx o rx Q q => by
  obtain ⟨m1, m2, us, h1, r1⟩ := o.m a _ hm
  refine .inl ⟨a, us, rx.raw_inv, sq_of h1, fun p hp => ?_⟩
  have e := Ex.new (o := .lst (cutV us lo hi)) (fresh_back o.h hp)
  exact q _ _ M _ _ k (o.grow hp) e (.lst upd_same ((cut_rp r1).mono e))
theorem lx_tup {xs : List Dt} {lo hi : Option Int} (k : Φ (.tup (cutD xs lo hi)) M) : LX K (rSlAny K) (.tup xs) lo hi M Φ := fun B H H1 vx o rx Q q => by
  obtain ⟨a, us, rfl, h1, r1⟩ := rx.tup_inv
  refine .inr (.inl ⟨a, us, rfl, ex_t o.h h1, fun e => ?_, fun _ p hp => ?_⟩)
  · refine q _ _ M H H1 k o (Ex.refl H) ?_
    have e2 : cutD xs lo hi = xs := by
      rw [r1.length] at e
      unfold cutD
      rw [e.1, e.2, List.drop_zero, Nat.sub_zero, List.take_length]
    rw [e2]
    exact .tup h1 r1
  · have e := Ex.new (o := .tup (cutV us lo hi)) (fresh_back o.h hp)
    exact q _ _ M _ _ k (o.grow hp) e (.tup (st_of upd_same) ((cut_rp r1).mono e))
theorem lx_str {z : Str} {lo hi : Option Int} (hl : z.length ≤ sizeLine) (k : Φ (.str (cutS z lo hi)) M) : LX K (rSlAny K) (.str z) lo hi M Φ := fun B H H1 vx o rx Q q => .inr (.inr ⟨z, rx.str_inv, hl, q _ _ M H H1 k o (Ex.refl H) (.str _)⟩)
theorem cx_one {r : List V → Hp → VK → Prop} {x : Dt} {z : V} {d : Dt} (h : ∀ H vx Q, Rp K H vx x → Q z H → r [vx] H Q) (hr : ∀ H, Rp K H z d) (k : Φ d M) : CX K r [x] M Φ := fun B H H1 vs o rx Q q => by
  cases rx with
  | cons rx rr =>
    cases rr
    exact h H1 _ Q (rx.mono o.h) (q z d M H H1 k o (Ex.refl H) (hr H))
theorem cx_len_tup {xs : List Dt} (k : Φ (.int xs.length) M) : CX K (rLenA K) [.tup xs] M Φ := fun B H H1 vs o rx Q q => by
  cases rx with
  | cons rx rr =>
    cases rr
    obtain ⟨a, us, rfl, h1, r1⟩ := rx.tup_inv
    exact .inl ⟨a, us, rfl, .inr (ex_t o.h h1), q _ _ M H H1 k o (Ex.refl H) (by rw [r1.length]; exact .int _)⟩
theorem cx_len_lst {xs : List Dt} (k : Φ (.int xs.length) M) : CX K (rLenA K) [.lst xs] M Φ := fun B H H1 vs o rx Q q => by
  cases rx with
  | cons rx rr =>
    cases rr
    obtain ⟨a, us, rfl, h1, r1⟩ := rx.lst_inv
    exact .inl ⟨a, us, rfl, .inl (sq_of (o.h _ _ h1)), q _ _ M H H1 k o (Ex.refl H) (by rw [r1.length]; exact .int _)⟩
theorem cx_len_frl {xs : List Dt} (k : Φ (.int xs.length) M) : CX K (rLenA K) [.frl xs] M Φ := fun B H H1 vs o rx Q q => by
  cases rx with
  | cons rx rr =>
    cases rr
    obtain ⟨a, us, rfl, h1, r1⟩ := rx.frl_inv
    exact .inl ⟨a, us, rfl, .inl (ex_l o.h h1), q _ _ M H H1 k o (Ex.refl H) (by rw [r1.length]; exact .int _)⟩
theorem cx_len_cell {a : Addr} {xs : List Dt} (hm : M a = some (.lst xs)) (k : Φ (.int xs.length) M) : CX K (rLenA K) [.raw (.ref a)] M Φ := fun B H H1 vs o rx Q q => by
  cases rx with
  | cons rx rr =>
    cases rr
    obtain ⟨m1, m2, us, h1, r1⟩ := o.m a _ hm
    exact .inl ⟨a, us, by rw [rx.raw_inv], .inl (sq_of h1), q _ _ M H H1 k o (Ex.refl H) (by rw [r1.length]; exact .int _)⟩
theorem cx_len_str {z : Str} (hl : z.length ≤ sizeLine) (k : Φ (.int z.length) M) : CX K (rLenA K) [.str z] M Φ := cx_one (fun H vx Q rx q => .inr ⟨z, by rw [rx.str_inv], hl, q⟩) (fun _ => .int _) k
end
end Wk
/-! ## WkD -/
namespace Wk
open PySem L2 Evl

/-! what a for walks, by kinds -/
def rng (lo : Int) (n : Nat) : List Dt := (List.range n).map fun (i : Nat) => Dt.int (lo + (i : Nat))
theorem rng_len {lo : Int} {n : Nat} : (rng lo n).length = n := by unfold rng; rw [List.length_map, List.length_range]
theorem rng_get {lo : Int} {n i : Nat} {d : Dt} (h : (rng lo n)[i]? = some d) : i < n ∧ d = .int (lo + i) := by
  unfold rng at h
  rw [List.getElem?_map] at h
  cases e : (List.range n)[i]? with
  | none =>
    rw [e] at h
    cases h
  | some j =>
    rw [e] at h
    have q := List.getElem?_eq_some_iff.mp e
    obtain ⟨h1, h2⟩ := q
    rw [List.length_range] at h1
    rw [List.getElem_range] at h2
    cases h
    exact ⟨h1, by rw [h2]⟩
theorem rng_at {lo : Int} {n i : Nat} (h : i < n) : (rng lo n)[i]? = some (.int (lo + i)) := by
  unfold rng
  rw [List.getElem?_map, List.getElem?_range h]
  rfl
section
variable {K : PySem.W.Frag} {ρ : Rho} {M : Mm} {Ψ : List Dt → (Mm → Prop) → Mm → Prop} {ta : TA} {te : TE}
theorem ix_rng1 (h : AX K ta ρ M (fun ds M1 => ∃ j : Int, ds = [.int j] ∧ j < 2 ^ 62 ∧ -(2 ^ 62) ≤ j ∧ Ψ (rng 0 j.toNat) (fun _ => True) M1)) : IX K (iRng1 ta) ρ M Ψ := fun B H H1 σ o s R q =>
  h B H H1 σ o s _ fun vs ds M' H' H2 z k e r => by
    obtain ⟨j, rfl, h1, h2, z⟩ := z
    cases r with
    | cons r rr =>
      cases rr
      refine ⟨j, by rw [r.int_inv], h2, h1, q _ _ _ M' H' H2 z k e ⟨fun i _ _ _ _ hi _ _ _ => by rw [rng_len] at hi; exact hi, fun _ _ _ _ _ _ _ => by rw [rng_len]; exact Nat.le_refl _, fun i x H5 _ H3 H4 M3 hi _ _ _ y => ?_⟩⟩
      rw [rng_len] at hi
      obtain ⟨y1, y2⟩ := y
      refine .inl ⟨y1, _, rng_at hi, ?_⟩
      rw [y2]
      exact .int _
theorem ix_rng2 (h : AX K ta ρ M (fun ds M1 => ∃ i j : Int, ds = [.int i, .int j] ∧ (-(2 ^ 62) ≤ i ∧ i < 2 ^ 62 ∧ -(2 ^ 62) ≤ j ∧ j < 2 ^ 62) ∧ Ψ (rng i (j - i).toNat) (fun _ => True) M1)) : IX K (iRng2 ta) ρ M Ψ := fun B H H1 σ o s R q =>
  h B H H1 σ o s _ fun vs ds M' H' H2 z k e r => by
    obtain ⟨i, j, rfl, h1, z⟩ := z
    cases r with
    | cons r rr =>
      cases rr with
      | cons r2 rr =>
        cases rr
        refine ⟨i, j, by rw [r.int_inv, r2.int_inv], h1, q _ _ _ M' H' H2 z k e ⟨fun i _ _ _ _ hi _ _ _ => by rw [rng_len] at hi; exact hi, fun _ _ _ _ _ _ _ => by rw [rng_len]; exact Nat.le_refl _, fun i x H5 _ H3 H4 M3 hi _ _ _ y => ?_⟩⟩
        rw [rng_len] at hi
        obtain ⟨y1, y2⟩ := y
        refine .inl ⟨y1, _, rng_at hi, ?_⟩
        rw [y2]
        exact .int _
/-- a list or a tuple -/
def iAny (K : PySem.W.Frag) (te : TE) : TI := fun σ H R => te σ H fun x H1 => (∃ a, x = .ref a ∧ (∃ xs, SqL K H1 a xs) ∧ R (Itl K a) H1) ∨ (∃ a, x = .ref a ∧ (∃ xs, SqT K H1 a xs) ∧ R (Itt K a) H1)
end
section
open PySem.Spec PyProof.Rows
variable {X : Cx} {tg : Expr}
theorem pi_any {l : Expr} {tl : TE} (hl : PE X l tl) : PI X tg l (iAny X.K tl) := by
  refine ⟨fun pins s σ H R I h => ?_⟩
  refine thn (hl.run pins s σ H _ I h) fun v s1 ⟨x, H1, I1, r1, q1⟩ => ?_
  rcases q1 with ⟨a, e, ⟨xs, hq⟩, q⟩ | ⟨a, e, ⟨xs, hq⟩, q⟩
  · subst e
    cases r1
    obtain ⟨its, rv, p, hz⟩ := I1.list hq
    refine wpAny_pyIter_list p.isList ?_
    refine ⟨s1.heap.objs.size, [s1.heap.objs.size], _, _, H1, rfl, I1.kept (t' := s1.toks) fun b o e => Heap.get?_push_of_some _ e, turn_list a _, ⟨_, Heap.get?_push_size _ rfl, rfl, rfl⟩, fun b hb => ?_, q⟩
    have e : b = s1.heap.objs.size := by simpa using hb
    subst e
    exact I1.fpOk (Nat.le_refl _) (I1.hok.fresh (Nat.le_refl _))
  · subst e
    cases r1
    obtain ⟨its, rv, p, hz⟩ := I1.tuple hq
    refine wpAny_pyIter_tuple (show s1.heap.IsTuple a its.toArray from p) ?_
    refine ⟨s1.heap.objs.size, [s1.heap.objs.size], _, _, H1, rfl, I1.kept (t' := s1.toks) fun b o e => Heap.get?_push_of_some _ e, turn_tuple a _, ⟨_, Heap.get?_push_size _ rfl, rfl, rfl⟩, fun b hb => ?_, q⟩
    have e : b = s1.heap.objs.size := by simpa using hb
    subst e
    exact I1.fpOk (Nat.le_refl _) (I1.hok.fresh (Nat.le_refl _))
end
section
variable {K : PySem.W.Frag} {ρ : Rho} {M : Mm} {Ψ : List Dt → (Mm → Prop) → Mm → Prop} {ta : TA} {te : TE}
theorem walk_lst {H' : Hp} {a : Addr} {us : List V} {xs : List Dt} {G : Mm → Prop} (h : ∀ B H3 H4 M3, Ok K B H3 H4 M3 → Ex H' H3 → G M3 → ∃ us, SqL K H4 a us ∧ RpAll K H3 us xs) : WalkD K (Itl K a) G H' xs where
  goes := fun i B H3 H4 M3 hi o e g => by
    obtain ⟨us, h1, r⟩ := h B H3 H4 M3 o e g
    have hi' : i < us.length := by rw [r.length]; exact hi
    exact ⟨us, us[i], h1, List.getElem?_eq_getElem hi'⟩
  stops := fun B H3 H4 M3 o e g => by
    obtain ⟨us, h1, r⟩ := h B H3 H4 M3 o e g
    exact ⟨us, h1, by rw [r.length]; exact Nat.le_refl _⟩
  yields := fun i x H5 B H3 H4 M3 hi o e g y => by
    obtain ⟨us, h1, r⟩ := h B H3 H4 M3 o e g
    obtain ⟨d, h2, h3⟩ := r.getV (y.2 us h1)
    exact .inl ⟨y.1, d, h2, h3⟩
theorem walk_tupD {H' : Hp} {a : Addr} {us : List V} {xs : List Dt} {G : Mm → Prop} (h : ∀ B H3 H4 M3, Ok K B H3 H4 M3 → Ex H' H3 → G M3 → ∃ us, SqT K H4 a us ∧ RpAll K H3 us xs) : WalkD K (Itt K a) G H' xs where
  goes := fun i B H3 H4 M3 hi o e g => by
    obtain ⟨us, h1, r⟩ := h B H3 H4 M3 o e g
    have hi' : i < us.length := by rw [r.length]; exact hi
    exact ⟨us, us[i], h1, List.getElem?_eq_getElem hi'⟩
  stops := fun B H3 H4 M3 o e g => by
    obtain ⟨us, h1, r⟩ := h B H3 H4 M3 o e g
    exact ⟨us, h1, by rw [r.length]; exact Nat.le_refl _⟩
  yields := fun i x H5 B H3 H4 M3 hi o e g y => by
    obtain ⟨us, h1, r⟩ := h B H3 H4 M3 o e g
    obtain ⟨d, h2, h3⟩ := r.getV (y.2 us h1)
    exact .inl ⟨y.1, d, h2, h3⟩
/-- what stands at a value that is walked, read at each turn: its items, and what must stay true of what may change -/
def WSrc (M : Mm) (d : Dt) (xs : List Dt) (G : Mm → Prop) : Prop := ((d = .lst xs ∨ d = .frl xs ∨ d = .tup xs) ∧ G = fun _ => True) ∨ ∃ a, d = .raw (.ref a) ∧ M a = some (.lst xs) ∧ G = fun M' => M' a = some (.lst xs)
theorem ix_any (h : EX K te ρ M (fun d M1 => ∃ xs G, WSrc M1 d xs G ∧ Ψ xs G M1)) : IX K (iAny K te) ρ M Ψ := fun B H H1 σ o s R q =>
  h B H H1 σ o s _ fun v d M' H' H2 z k e r => by
    obtain ⟨xs, G, hs, z⟩ := z
    rcases hs with ⟨rfl | rfl | rfl, rfl⟩ | ⟨a, rfl, hm, rfl⟩
    · obtain ⟨a, us, rfl, h1, r1⟩ := r.lst_inv
      exact .inl ⟨a, rfl, ⟨us, sq_of (k.h _ _ h1)⟩, q _ _ _ M' H' H2 z k e (walk_lst (us := us) fun B H3 H4 M3 o e g => ⟨us, sq_of (o.h _ _ (e _ _ h1)), r1.mono e⟩)⟩
    · obtain ⟨a, us, rfl, h1, r1⟩ := r.frl_inv
      exact .inl ⟨a, rfl, ⟨us, ex_l k.h h1⟩, q _ _ _ M' H' H2 z k e (walk_lst (us := us) fun B H3 H4 M3 o e g => ⟨us, ex_l o.h (ex_l e h1), r1.mono e⟩)⟩
    · obtain ⟨a, us, rfl, h1, r1⟩ := r.tup_inv
      exact .inr ⟨a, rfl, ⟨us, ex_t k.h h1⟩, q _ _ _ M' H' H2 z k e (walk_tupD (us := us) fun B H3 H4 M3 o e g => ⟨us, ex_t o.h (ex_t e h1), r1.mono e⟩)⟩
    · obtain ⟨m1, m2, us, h1, r1⟩ := k.m a _ hm
      exact .inl ⟨a, r.raw_inv, ⟨us, sq_of h1⟩, q _ _ _ M' H' H2 z k e (walk_lst (us := us) fun B H3 H4 M3 o e g => by
        obtain ⟨m1, m2, us, h1, r1⟩ := o.m a _ g
        exact ⟨us, sq_of h1, r1⟩)⟩
end

/-! ### promises -/
/-- α: what a call is about; pre: its arguments and what may change, post: what is handed back -/
def SpD (K : PySem.W.Frag) {α : Type} (pre : α → List Dt → Mm → Prop) (post : α → Mm → Dt → Mm → Prop) : Sp := fun vs H1 Q _ => ∃ (x : α) (B H : Hp) (M : Mm) (ds : List Dt), Ok K B H H1 M ∧ RpAll K H vs ds ∧ pre x ds M ∧
  ∀ v d M' H' H2, post x M d M' → Ok K B H' H2 M' → Ex H H' → Rp K H' v d → Q v H2
/-- a function of data -/
abbrev SpP (K : PySem.W.Frag) {α : Type} (enc : α → List Dt) (ok : α → Prop) (f : α → Dt) : Sp := SpD K (fun x ds _ => ds = enc x ∧ ok x) (fun x M d M' => d = f x ∧ M' = M)
def startD (N : List Str) (ds : List Dt) : Rho := ds.map some ++ List.replicate (N.length - ds.length) none
/-- behind a def's return: what is promised of it, its own lists forgotten -/
abbrev retE (post : Dt → Mm → Prop) : Es := ⟨fun _ M' => ∃ M'', Sub M'' M' ∧ post .non M'', fun d M' => ∃ M'', Sub M'' M' ∧ post d M'', fun _ _ => False, fun _ _ => False⟩
section
variable {K : PySem.W.Frag}
theorem rp_map {H : Hp} : ∀ {vs : List V} {ds : List Dt} {i : Nat} {d : Dt}, RpAll K H vs ds → (ds.map some)[i]? = some (some d) → ∃ v, (vs.map some)[i]? = some (some v) ∧ Rp K H v d := fun {vs ds i d} r h => by
  rw [List.getElem?_map] at h
  cases e : ds[i]? with
  | none =>
    rw [e] at h
    cases h
  | some x =>
    rw [e] at h
    cases h
    obtain ⟨v, h1, h2⟩ := r.get e
    exact ⟨v, by rw [List.getElem?_map, h1] <;> rfl, h2⟩
theorem slOk_start {H : Hp} {vs : List V} {ds : List Dt} {N : List Str} (r : RpAll K H vs ds) : SlOk K H (L2.start N vs) (startD N ds) := by
  have hl := r.length
  refine ⟨?_, fun i d h => ?_⟩
  · unfold L2.start startD
    rw [List.length_append, List.length_append, List.length_map, List.length_map, List.length_replicate, List.length_replicate, hl]
  · unfold L2.start
    unfold startD at h
    by_cases hi : i < ds.length
    · rw [List.getElem?_append_left (by rw [List.length_map]; exact hi)] at h
      rw [List.getElem?_append_left (by rw [List.length_map, hl]; exact hi)]
      exact rp_map r h
    · rw [List.getElem?_append_right (by rw [List.length_map]; omega), List.getElem?_replicate] at h
      split at h <;> cases h
section
variable {α : Type} {pre : α → List Dt → Mm → Prop} {post : α → Mm → Dt → Mm → Prop}
theorem enter {N : List Str} {vs : List V} {H1 : Hp} {Q : VK} {E : XK} {t : TS} (h : SpD K pre post vs H1 Q E)
    (body : ∀ x ds M, pre x ds M → SX K t (startD N ds) M (retE (post x M))) : t { nx := fun _ H' => Q .non H', rt := Q } (L2.start N vs) H1 := by
  obtain ⟨x, B, H, M, ds, o, r, hp, q⟩ := h
  refine body x ds M hp B H H1 (L2.start N vs) _ o (slOk_start r) ⟨fun ρ' M' σ' H' H2 z k s e => ?_, fun v d M' H' H2 z k e rv => ?_, fun _ _ _ _ _ z => z.elim, fun _ _ _ _ _ z => z.elim⟩
  · obtain ⟨M'', sb, z⟩ := z
    exact q .non .non M'' H' H2 z (k.sub sb) e .non
  · obtain ⟨M'', sb, z⟩ := z
    exact q v d M'' H' H2 z (k.sub sb) e rv
theorem spD_len {n : Nat} (h : ∀ x ds M, pre x ds M → ds.length = n) : ∀ vs H Q E, SpD K pre post vs H Q E → vs.length = n := fun vs H1 Q E ⟨x, B, H, M, ds, o, r, hp, q⟩ => by
  rw [r.length]
  exact h x ds M hp
end
/-- a def that may be called -/
structure Cal (P : Program) (w : World) (K : PySem.W.Frag) (mg : Str → Option Value) (base : Heap) (k : Nat) (x : Str) (sp : Sp) : Prop where
  ex : ∃ (f : Addr) (fd : FuncData) (ps : List Str), FnOk P w K mg base CX0 k f fd ps sp ∧ mg x = some (.ref f) ∧ PySem.W.keepIn K (.ref f) = true ∧ Binds K fd ps []
theorem Cal.mono {P : Program} {w : World} {mg : Str → Option Value} {base : Heap} {j k : Nat} {x : Str} {sp : Sp} (c : Cal P w K mg base j x sp) (h : j ≤ k) : Cal P w K mg base k x sp := by
  obtain ⟨f, fd, ps, F, a, b, d⟩ := c.ex
  exact ⟨f, fd, ps, F.mono h, a, b, d⟩
section
variable {X : Cx} {k j : Nat} {x : Str} {sp : Sp} {p pos : Pos} {e : Expr} {es : List Expr} {t : TA}
theorem pe_c (c : Cal X.prog X.w X.K X.mg X.base k x sp) (hr : Room j X.A) (hk : k ≤ j) (hg : Gl X x) (ha : PA X (e :: es) t)
    (hdb : (x == ("__debug__" : Str)) = false := by decide) (he : starEach (e :: es) X.env = (false, eval e X.env) :: starEach es X.env := by rfl) (hpl : (backTo pos (starEach es X.env)).any (·.1) = false := by rfl) :
    PE X (.Call (.Name x p) (e :: es) [] pos) (tCall sp [] E0 t) := by
  obtain ⟨f, fd, ps, F, hm, kp, b⟩ := c.ex
  exact pe_call F (hr.mono hk) hg hm kp b .nil pass0 ha hdb he hpl
end
section
variable {ρ : Rho} {M : Mm} {Φ : Dt → Mm → Prop} {ta te : TE} {t : TA} {E : XK} {α : Type} {pre : α → List Dt → Mm → Prop} {post : α → Mm → Dt → Mm → Prop}
theorem ex_call (h : AX K t ρ M (fun ds M1 => ∃ x, pre x ds M1 ∧ ∀ d M2, post x M1 d M2 → Φ d M2)) : EX K (tCall (SpD K pre post) [] E t) ρ M Φ := fun B H H1 σ o s Q q =>
  h B H H1 σ o s _ fun vs ds M' H' H2 ⟨x, z⟩ k e r => ⟨x, B, H', M', ds, k, by rw [List.append_nil]; exact r, z.1, fun v d M3 H3 H4 hp k3 e3 r3 => q v d M3 H3 H4 (z.2 d M3 hp) k3 (e.trans e3) r3⟩
/-- a method of an object that stays -/
theorem ex_meth {C : Addr} {m : Str} (h : EX K te ρ M (fun x M1 => ∃ fs, x = .obj C fs ∧ fs.lookup m = none ∧ AX K t ρ M1 (fun ds M2 => ∃ y, pre y (.obj C fs :: ds) M2 ∧ ∀ d M3, post y M2 d M3 → Φ d M3))) :
    EX K (tMeth C m (SpD K pre post) [] E te t) ρ M Φ := fun B H H1 σ o s Q q =>
  h B H H1 σ o s _ fun v d M' H' H2 z k e r => by
    obtain ⟨fs, rfl, hn, z⟩ := z
    obtain ⟨a, dx, gs, rfl, h1, r1⟩ := r.obj_inv
    refine ⟨a, dx, gs, rfl, k.h _ _ h1, r1.lookupN hn, z B H' H2 σ k (s.mono e) _ fun vs ds M2 H3 H4 z2 k2 e2 r2 => ?_⟩
    obtain ⟨y, z2⟩ := z2
    exact ⟨y, B, H3, M2, .obj C fs :: ds, k2, by rw [List.append_nil]; exact .cons (r.mono e2) r2, z2.1, fun v d M3 H5 H6 hp k3 e3 r3 => q v d M3 H5 H6 (z2.2 d M3 hp) k3 ((e.trans e2).trans e3) r3⟩
theorem ex_fld {f : Str} (h : EX K te ρ M (fun x M1 => ∃ C fs d, x = .obj C fs ∧ Cls K C ∧ NoAttr K C f ∧ fs.lookup f = some d ∧ Φ d M1)) : EX K (tFld K te f) ρ M Φ := fun B H H1 σ o s Q q =>
  h B H H1 σ o s _ fun v d M' H' H2 z k e r => by
    obtain ⟨C, fs, d, rfl, c, n, l, z⟩ := z
    obtain ⟨a, dx, gs, rfl, h1, r1⟩ := r.obj_inv
    obtain ⟨v, l2, r2⟩ := r1.lookup l
    exact ⟨a, C, dx, gs, v, rfl, k.h _ _ h1, c, n, l2, q v d M' H' H2 z k e r2⟩
theorem ex_prop {C : Addr} (h : EX K te ρ M (fun x M1 => ∃ fs, x = .obj C fs ∧ ∃ y, pre y [.obj C fs] M1 ∧ ∀ d M2, post y M1 d M2 → Φ d M2)) : EX K (tProp C (SpD K pre post) [] E te) ρ M Φ := fun B H H1 σ o s Q q =>
  h B H H1 σ o s _ fun v d M' H' H2 z k e r => by
    obtain ⟨fs, rfl, y, z1, z2⟩ := z
    obtain ⟨a, dx, gs, rfl, h1, r1⟩ := r.obj_inv
    exact ⟨a, dx, gs, rfl, k.h _ _ h1, y, B, H', M', [.obj C fs], k, .one r, z1, fun v d M3 H5 H6 hp k3 e3 r3 => q v d M3 H5 H6 (z2 d M3 hp) k3 (e.trans e3) r3⟩
end
section
variable {ρ : Rho} {M : Mm} {Φ : Dt → Mm → Prop} {te : TE} {t : TA} {E : XK} {α : Type} {enc : α → List Dt} {ok : α → Prop} {f : α → Dt}
theorem ex_callP (h : AX K t ρ M (fun ds M1 => ∃ x, ds = enc x ∧ ok x ∧ Φ (f x) M1)) : EX K (tCall (SpP K enc ok f) [] E t) ρ M Φ := ex_call (fun B H H1 σ o s Q q => h B H H1 σ o s Q fun vs ds M' H' H2 ⟨x, z1, z2, z3⟩ => q vs ds M' H' H2 ⟨x, ⟨z1, z2⟩, fun d M2 ⟨e1, e2⟩ => by
  rw [e1, e2]
  exact z3⟩)
theorem ex_propP {C : Addr} (h : EX K te ρ M (fun x M1 => ∃ fs, x = .obj C fs ∧ ∃ y, [Dt.obj C fs] = enc y ∧ ok y ∧ Φ (f y) M1)) : EX K (tProp C (SpP K enc ok f) [] E te) ρ M Φ := ex_prop (h.mono fun d M' ⟨fs, e, y, z1, z2, z3⟩ => ⟨fs, e, y, ⟨z1, z2⟩, fun d M2 ⟨e1, e2⟩ => by
  rw [e1, e2]
  exact z3⟩)
theorem ex_methP {C : Addr} {m : Str} (h : EX K te ρ M (fun x M1 => ∃ fs, x = .obj C fs ∧ fs.lookup m = none ∧ AX K t ρ M1 (fun ds M2 => ∃ y, Dt.obj C fs :: ds = enc y ∧ ok y ∧ Φ (f y) M2))) :
    EX K (tMeth C m (SpP K enc ok f) [] E te t) ρ M Φ := ex_meth (h.mono fun d M' ⟨fs, e, n, z⟩ => ⟨fs, e, n, fun B H H1 σ o s Q q => z B H H1 σ o s Q fun vs ds M2 H' H2 ⟨x, z1, z2, z3⟩ => q vs ds M2 H' H2 ⟨x, ⟨z1, z2⟩, fun d M3 ⟨e1, e2⟩ => by
  rw [e1, e2]
  exact z3⟩⟩)
theorem ret_pure {y : Dt} {d : Dt} {M M' : Mm} (h : d = y) (s : Sub M M') : (retE fun d M' => d = y ∧ M' = M).rt d M' := ⟨M, s, h, rfl⟩
end
end
theorem sz2 {n : Nat} (h : n ≤ 100000) : n ≤ sizeLine := Nat.le_trans h (by decide)
end Wk
/-! ## WkE -/
namespace Wk
open PySem L2 Evl

/-! numbers -/
theorem bits_le {i : Int} {n : Nat} (h : i.natAbs < 2 ^ n) (hn : 0 < n) : Builtin.Int.intBits i ≤ n := by
  have x := PySem.Flt.log2_lt_of hn h
  unfold Builtin.Int.intBits
  split <;> omega
theorem cpow_of {i j : Int} {n : Nat} (hj : 0 ≤ j) (h : i.natAbs < 2 ^ n) (hn : 0 < n) (hz : (n : Int) * j ≤ 2 ^ 27) : CPowW i j := by
  refine ⟨hj, ?_⟩
  have b := bits_le h hn
  have e : ((Builtin.Int.intBits i : Nat) : Int) ≤ (n : Int) := by exact_mod_cast b
  exact Int.le_trans (Int.mul_le_mul_of_nonneg_right e hj) hz
theorem abs_lt {i : Int} {n : Nat} (h1 : -(2 ^ n : Int) < i) (h2 : i < 2 ^ n) : i.natAbs < 2 ^ n := by
  have e : ((2 ^ n : Nat) : Int) = (2 : Int) ^ n := by push_cast; rfl
  omega
theorem cdiv_of {i j : Int} {n : Nat} (h : 0 < j) (hb : j.natAbs < 2 ^ n) (h0 : 0 < n) (h9 : n ≤ 9000) : CDivW i j := wide_div h hb h0 h9
theorem cmul_l {i j : Int} (h1 : -(2 ^ 64) < i) (h2 : i < 2 ^ 64) : CMulW i j ∨ CMul i j := .inr (.inl ⟨h1, h2⟩)
theorem cmul_r {i j : Int} (h1 : -(2 ^ 64) < j) (h2 : j < 2 ^ 64) : CMulW i j ∨ CMul i j := .inr (.inr ⟨h1, h2⟩)

section
variable {K : PySem.W.Frag} {ρ : Rho} {M : Mm} {Φ : Dt → Mm → Prop} {ta te to : TE} {t : TA}
theorem ux_neg {i : Int} (k : Φ (.int (-i)) M) : UX K (rU fun i => .int (-i)) (.int i) M Φ := fun B H H1 vx o rx Q q => ⟨i, rx.int_inv, q _ _ M H H1 k o (Ex.refl H) (.int _)⟩
theorem cx_max2 {i j : Int} (k : Φ (.int (if j > i then j else i)) M) : CX K (fun xs H Q => ∃ i j, xs = [.int i, .int j] ∧ Q (.int (if j > i then j else i)) H) [.int i, .int j] M Φ := fun B H H1 vs o r Q q => by
  cases r with
  | cons r rr =>
    cases rr with
    | cons r2 rr =>
      cases rr
      exact ⟨i, j, by rw [r.int_inv, r2.int_inv], q _ _ M H H1 k o (Ex.refl H) (.int _)⟩
theorem cx_str {i : Int} (h : i.natAbs.log2 < 1920) (k : Φ (.str (toString i)) M) : CX K (fun xs H Q => ∃ i, xs = [.int i] ∧ i.natAbs.log2 < 1920 ∧ Q (.str (toString i)) H) [.int i] M Φ := cx_one (fun H vx Q rx q => ⟨i, by rw [rx.int_inv], h, q⟩) (fun _ => .str _) k
theorem cx_int {a : Str} {n : Int} (h : PySem.intText? a = some n) (hl : a.length ≤ 640) (k : Φ (.int n) M) : CX K (fun xs H Q => ∃ a n, xs = [.str a] ∧ PySem.intText? a = some n ∧ a.length ≤ 640 ∧ Q (.int n) H) [.str a] M Φ := cx_one (fun H vx Q rx q => ⟨a, n, by rw [rx.str_inv], h, hl, q⟩) (fun _ => .int _) k
def rListOf (K : PySem.W.Frag) : List V → Hp → VK → Prop := fun xs H Q => ∃ p ys, xs = [.ref p] ∧ (SqL K H p ys ∨ SqT K H p ys) ∧ ∀ l, H l = none → Q (.ref l) (upd H l (.lst ys))
theorem lst_src {M : Mm} {d : Dt} {xs : List Dt} {G : Mm → Prop} (hs : WSrc M d xs G) {B H H1 : Hp} {v : V} (o : Ok K B H H1 M) (r : Rp K H v d) : ∃ a us, v = .ref a ∧ (SqL K H1 a us ∨ SqT K H1 a us) ∧ RpAll K H us xs := by
  rcases hs with ⟨rfl | rfl | rfl, rfl⟩ | ⟨a, rfl, hm, rfl⟩
  · obtain ⟨a, us, rfl, h1, r1⟩ := r.lst_inv
    exact ⟨a, us, rfl, .inl (sq_of (o.h _ _ h1)), r1⟩
  · obtain ⟨a, us, rfl, h1, r1⟩ := r.frl_inv
    exact ⟨a, us, rfl, .inl (ex_l o.h h1), r1⟩
  · obtain ⟨a, us, rfl, h1, r1⟩ := r.tup_inv
    exact ⟨a, us, rfl, .inr (ex_t o.h h1), r1⟩
  · obtain ⟨m1, m2, us, h1, r1⟩ := o.m a _ hm
    exact ⟨a, us, r.raw_inv, .inl (sq_of h1), r1⟩
/-- list(..), as data | as a list that may change -/
theorem cx_list {d : Dt} {xs : List Dt} {G : Mm → Prop} (hs : WSrc M d xs G) (k : Φ (.lst xs) M) : CX K (fun xs H Q => ∃ p ys, xs = [.ref p] ∧ (SqL K H p ys ∨ SqT K H p ys) ∧ ∀ l, H l = none → Q (.ref l) (upd H l (.lst ys))) [d] M Φ := fun B H H1 vs o r Q q => by
  cases r with
  | cons r rr =>
    cases rr
    obtain ⟨a, us, rfl, h1, r1⟩ := lst_src hs o r
    refine ⟨a, us, rfl, h1, fun p hp => ?_⟩
    have e := Ex.new (o := .lst us) (fresh_back o.h hp)
    exact q _ _ M _ _ k (o.grow hp) e (.lst upd_same (r1.mono e))
theorem cx_listC {d : Dt} {xs : List Dt} {G : Mm → Prop} (hs : WSrc M d xs G) (k : ∀ a, M a = none → Φ (.raw (.ref a)) (put M a (.lst xs))) : CX K (fun xs H Q => ∃ p ys, xs = [.ref p] ∧ (SqL K H p ys ∨ SqT K H p ys) ∧ ∀ l, H l = none → Q (.ref l) (upd H l (.lst ys))) [d] M Φ := fun B H H1 vs o r Q q => by
  cases r with
  | cons r rr =>
    cases rr
    obtain ⟨a, us, rfl, h1, r1⟩ := lst_src hs o r
    exact ⟨a, us, rfl, h1, fun p hp => q _ _ _ _ _ (k p (o.noMem hp)) (o.cell hp ⟨us, upd_same, r1⟩) (Ex.refl H) (.raw _)⟩
theorem cx_tuple {d : Dt} {xs : List Dt} {G : Mm → Prop} (hs : WSrc M d xs G) (k : Φ (.tup xs) M) : CX K (fun xs H Q => ∃ p ys, xs = [.ref p] ∧ ((SqL K H p ys ∧ ∀ l, H l = none → Q (.ref l) (upd H l (.tup ys))) ∨ (SqT K H p ys ∧ Q (.ref p) H))) [d] M Φ := fun B H H1 vs o r Q q => by
  cases r with
  | cons r rr =>
    cases rr
    have grow : ∀ {a us}, SqL K H1 a us → RpAll K H us xs → ∃ p ys, [V.ref a] = [.ref p] ∧ ((SqL K H1 p ys ∧ ∀ l, H1 l = none → Q (.ref l) (upd H1 l (.tup ys))) ∨ (SqT K H1 p ys ∧ Q (.ref p) H1)) := fun {a us} h1 r1 => by
      refine ⟨a, us, rfl, .inl ⟨h1, fun p hp => ?_⟩⟩
      have e := Ex.new (o := .tup us) (fresh_back o.h hp)
      exact q _ _ M _ _ k (o.grow hp) e (.tup (st_of upd_same) (r1.mono e))
    rcases hs with ⟨rfl | rfl | rfl, rfl⟩ | ⟨a, rfl, hm, rfl⟩
    · obtain ⟨a, us, rfl, h1, r1⟩ := r.lst_inv
      exact grow (sq_of (o.h _ _ h1)) r1
    · obtain ⟨a, us, rfl, h1, r1⟩ := r.frl_inv
      exact grow (ex_l o.h h1) r1
    · obtain ⟨a, us, rfl, h1, r1⟩ := r.tup_inv
      exact ⟨a, us, rfl, .inr ⟨ex_t o.h h1, q _ _ M H H1 k o (Ex.refl H) (.tup h1 r1)⟩⟩
    · obtain ⟨m1, m2, us, h1, r1⟩ := o.m a _ hm
      have q2 := grow (sq_of h1) r1
      rw [r.raw_inv]
      exact q2
theorem cx_list_lst {xs : List Dt} (k : Φ (.lst xs) M) : CX K (fun xs H Q => ∃ p ys, xs = [.ref p] ∧ (SqL K H p ys ∨ SqT K H p ys) ∧ ∀ l, H l = none → Q (.ref l) (upd H l (.lst ys))) [.lst xs] M Φ := cx_list (.inl ⟨.inl rfl, rfl⟩) k
theorem cx_tuple_lst {xs : List Dt} (k : Φ (.tup xs) M) : CX K (fun xs H Q => ∃ p ys, xs = [.ref p] ∧ ((SqL K H p ys ∧ ∀ l, H l = none → Q (.ref l) (upd H l (.tup ys))) ∨ (SqT K H p ys ∧ Q (.ref p) H))) [.lst xs] M Φ := cx_tuple (.inl ⟨.inl rfl, rfl⟩) k
theorem cx_tuple_tup {xs : List Dt} (k : Φ (.tup xs) M) : CX K (fun xs H Q => ∃ p ys, xs = [.ref p] ∧ ((SqL K H p ys ∧ ∀ l, H l = none → Q (.ref l) (upd H l (.tup ys))) ∨ (SqT K H p ys ∧ Q (.ref p) H))) [.tup xs] M Φ := cx_tuple (.inl ⟨.inr (.inr rfl), rfl⟩) k
theorem cx_sum {d : Dt} {ns : List Int} (hd : d = .lst (ns.map Dt.int) ∨ d = .frl (ns.map Dt.int)) (k : Φ (.int ns.sum) M) : CX K (rSum K) [d] M Φ := fun B H H1 vs o r Q q => by
  cases r with
  | cons r rr =>
    cases rr
    rcases hd with rfl | rfl
    · obtain ⟨a, us, rfl, h1, r1⟩ := r.lst_inv
      have e := r1.ints
      subst e
      exact ⟨a, ns, rfl, sq_of (o.h _ _ h1), q _ _ M H H1 k o (Ex.refl H) (.int _)⟩
    · obtain ⟨a, us, rfl, h1, r1⟩ := r.frl_inv
      have e := r1.ints
      subst e
      exact ⟨a, ns, rfl, ex_l o.h h1, q _ _ M H H1 k o (Ex.refl H) (.int _)⟩
/-! methods of lists and texts -/
theorem ex_append {a : Addr} (h : EX K to ρ M (fun x M1 => x = .raw (.ref a) ∧ ∃ xs0, M1 a = some (.lst xs0) ∧ AX K t ρ M1 (fun ds M2 => ∃ d xs, ds = [d] ∧ M2 a = some (.lst xs) ∧ xs.length < sizeLine ∧ Φ .non (put M2 a (.lst (xs ++ [d])))))) : EX K (tBM K "list" rAppend to t) ρ M Φ := fun B H H1 σ o s Q q =>
  h B H H1 σ o s _ fun v x M1 H2 H3 z k e r => by
    obtain ⟨rfl, xs0, hm0, z⟩ := z
    obtain rfl := r.raw_inv
    obtain ⟨_, _, us0, h0, r0⟩ := k.m a _ hm0
    refine ⟨Or.inl ⟨rfl, us0, sq_of h0⟩, z B H2 H3 σ k (s.mono e) _ fun vs ds M2 H4 H5 z2 k2 e2 r2 => ?_⟩
    obtain ⟨d, xs, rfl, hm, hl, z2⟩ := z2
    cases r2 with
    | cons r2 rr =>
      cases rr
      obtain ⟨_, _, us, h1, r1⟩ := k2.m a _ hm
      exact ⟨a, us, _, rfl, rfl, h1, by rw [r1.length]; exact hl, q _ _ _ H4 _ z2 (k2.write hm ⟨_, upd_same, r1.append (.one r2)⟩) (e.trans e2) .non⟩
theorem ex_popAt {a : Addr} (h : EX K to ρ M (fun x M1 => x = .raw (.ref a) ∧ ∃ xs0, M1 a = some (.lst xs0) ∧ AX K t ρ M1 (fun ds M2 => ∃ xs i k y, ds = [.int i] ∧ M2 a = some (.lst xs) ∧ -(2 ^ 63) ≤ i ∧ i < 2 ^ 63 ∧ seqIndex? i xs.length = some k ∧ xs[k]? = some y ∧ Φ y (put M2 a (.lst (xs.eraseIdx k)))))) : EX K (tBM K "list" rPopAt to t) ρ M Φ := fun B H H1 σ o s Q q =>
  h B H H1 σ o s _ fun v x M1 H2 H3 z k e r => by
    obtain ⟨rfl, xs0, hm0, z⟩ := z
    obtain rfl := r.raw_inv
    obtain ⟨_, _, us0, h0, r0⟩ := k.m a _ hm0
    refine ⟨Or.inl ⟨rfl, us0, sq_of h0⟩, z B H2 H3 σ k (s.mono e) _ fun vs ds M2 H4 H5 z2 k2 e2 r2 => ?_⟩
    obtain ⟨xs, i, j, y, rfl, hm, l1, l2, hj, hy, z2⟩ := z2
    cases r2 with
    | cons r2 rr =>
      cases rr
      obtain ⟨_, _, us, h1, r1⟩ := k2.m a _ hm
      obtain ⟨v, hv, rv⟩ := r1.get hy
      have er : RpAll K H4 (us.eraseIdx j) (xs.eraseIdx j) := by
        rw [List.eraseIdx_eq_take_drop_succ, List.eraseIdx_eq_take_drop_succ]
        exact (r1.take _).append (r1.drop _)
      exact ⟨a, us, i, j, v, rfl, by rw [r2.int_inv], h1, l1, l2, by rw [r1.length]; exact hj, hv, q _ _ _ H4 _ z2 (k2.write hm ⟨_, upd_same, er⟩) (e.trans e2) rv⟩
theorem ex_m1 {r : V → List V → Hp → VK → Prop} (h : EX K to ρ M (fun x M1 => (∃ a, x = .str a) ∧ EX K te ρ M1 (fun y M2 => MX K r x [y] M2 Φ))) : EX K (tM1 r to te) ρ M Φ := fun B H H1 σ o s Q q =>
  h B H H1 σ o s _ fun v x M1 H2 H3 z k e rx => ⟨by obtain ⟨a, rfl⟩ := z.1; exact ⟨a, rx.str_inv⟩, z.2 B H2 H3 σ k (s.mono e) _ fun v2 y M2 H4 H5 z2 k2 e2 r2 => z2 B H4 H5 v [v2] k2 (rx.mono e2) (.one r2) Q fun v3 d3 M3 H6 H7 z3 k3 e3 r3 => q v3 d3 M3 H6 H7 z3 k3 ((e.trans e2).trans e3) r3⟩
theorem ex_m0 {r : V → List V → Hp → VK → Prop} (h : EX K to ρ M (fun x M1 => (∃ a, x = .str a) ∧ MX K r x [] M1 Φ)) : EX K (tM0 r to) ρ M Φ := fun B H H1 σ o s Q q =>
  h B H H1 σ o s _ fun v x M1 H2 H3 z k e rx => ⟨by obtain ⟨a, rfl⟩ := z.1; exact ⟨a, rx.str_inv⟩, z.2 B H2 H3 v [] k rx .nil Q fun v3 d3 M3 H6 H7 z3 k3 e3 r3 => q v3 d3 M3 H6 H7 z3 k3 (e.trans e3) r3⟩
theorem mx_split {a b : Str} (hb : (b.length == 0) = false) (hl : a.length + 2 ≤ sizeLine) (k : Φ (.lst ((Txt.split a b).map Dt.str)) M) : MX K (fun x xs H Q => ∃ a b, x = .str a ∧ xs = [.str b] ∧ (b.length == 0) = false ∧ a.length + 2 ≤ sizeLine ∧ rNewStrs (Txt.split a b) H Q) (.str a) [.str b] M Φ := fun B H H1 vx vs o rx r Q q => by
  cases r with
  | cons r rr =>
    cases rr
    refine ⟨a, b, rx.str_inv, by rw [r.str_inv], hb, hl, fun p hp => ?_⟩
    have e := Ex.new (o := .lst ((Txt.split a b).map V.str)) (fresh_back o.h hp)
    exact q _ _ M _ _ k (o.grow hp) e (.lst upd_same RpAll.ofStrs)
theorem mx_join {a : Str} {d : Dt} {G : Mm → Prop} {ys : List Str} (hs : WSrc M d (ys.map Dt.str) G) (hl : (ys.map (·.length)).sum + ys.length * a.length ≤ 16777216) (k : Φ (.str (Txt.join a ys)) M) : MX K (fun x xs H Q => ∃ a p, ∃ ys : List Str, x = .str a ∧ xs = [.ref p] ∧ (SqL K H p (ys.map V.str) ∨ SqT K H p (ys.map V.str)) ∧ (ys.map (·.length)).sum + ys.length * a.length ≤ 16777216 ∧ Q (.str (Txt.join a ys)) H) (.str a) [d] M Φ := fun B H H1 vx vs o rx r Q q => by
  cases r with
  | cons r rr =>
    cases rr
    obtain ⟨p, us, rfl, h1, r1⟩ := lst_src hs o r
    have e := r1.strs
    subst e
    exact ⟨a, p, ys, rx.str_inv, rfl, h1, hl, q _ _ M H H1 k o (Ex.refl H) (.str _)⟩
theorem mx_isdigit {a : Str} (k : Φ (.bl (Txt.isdigit a)) M) : MX K (fun x xs H Q => ∃ a, x = .str a ∧ xs = [] ∧ True ∧ Q (.bl (Txt.isdigit a)) H) (.str a) [] M Φ := fun B H H1 vx vs o rx r Q q => by
  cases r
  exact ⟨a, rx.str_inv, rfl, trivial, q _ _ M H H1 k o (Ex.refl H) (.bl _)⟩
theorem mx_startswith {a b : Str} (k : Φ (.bl (Txt.startswith a b)) M) : MX K (fun x xs H Q => ∃ a b, x = .str a ∧ xs = [.str b] ∧ Q (.bl (Txt.startswith a b)) H) (.str a) [.str b] M Φ := fun B H H1 vx vs o rx r Q q => by
  cases r with
  | cons r rr =>
    cases rr
    exact ⟨a, b, rx.str_inv, by rw [r.str_inv], q _ _ M H H1 k o (Ex.refl H) (.bl _)⟩
/-! x in (1, 2, 3): ints -/
def inI (i : Int) (ns : List Int) : Bool := ns.any fun n => n == i
theorem flat_ints (ns : List Int) : (ns.map V.int).all flatV = true := by
  rw [List.all_eq_true]
  intro x hx
  obtain ⟨n, _, rfl⟩ := List.mem_map.mp hx
  rfl
theorem inV_ints (i : Int) (ns : List Int) : inV (.int i) (ns.map V.int) = inI i ns := by
  unfold inV inI
  rw [List.any_map]
  rfl
theorem rx_in_ints {i : Int} {d : Dt} {ns : List Int} {G : Mm → Prop} (hs : WSrc M d (ns.map Dt.int) G) (k : Φ (.bl (inI i ns)) M) : RX K (rIn K false) (.int i) d M Φ := fun B H H1 vx vy o rx ry Q q => by
  obtain ⟨a, us, rfl, h1, r1⟩ := lst_src hs o ry
  have e := r1.ints
  subst e
  refine ⟨a, _, rfl, h1, by rw [rx.int_inv]; rfl, flat_ints ns, ?_⟩
  rw [rx.int_inv, inV_ints]
  exact q _ _ M H H1 k o (Ex.refl H) (.bl _)
end

/-! a statement, then the rest, by a word between them -/
section
variable {K : PySem.W.Frag} {ρ : Rho} {M : Mm} {ts us : TS} {E : Es} {te : TE} {Φ Ψ : Dt → Mm → Prop}
theorem sx_seqc (Mid : Rho → Mm → Prop) (h1 : SX K ts ρ M { E with nx := Mid }) (h2 : ∀ ρ' M', Mid ρ' M' → SX K us ρ' M' E) : SX K (tSeq ts us) ρ M E := sx_seq fun B H H1 σ D o s r => h1 B H H1 σ D o s ⟨fun ρ' M' σ' H' H2 z k s' e => r.nx ρ' M' σ' H' H2 (h2 ρ' M' z) k s' e, r.rt, r.bk, r.ct⟩
theorem ex_cut (Ψ : Dt → Mm → Prop) (h : EX K te ρ M Ψ) (k : ∀ d M', Ψ d M' → Φ d M') : EX K te ρ M Φ := h.mono k
end
theorem dT {p : Prop} [Decidable p] (h : decide p = true) : p := of_decide_eq_true h
theorem dF {p : Prop} [Decidable p] (h : decide p = false) : ¬ p := of_decide_eq_false h

/-! the source of a law's numbers -/
def IsSrc (n : Int) (c : Cell) : Prop := ∃ x y z : Int, c = .lst [.int x, .int y, .int z] ∧ 0 ≤ x ∧ 0 ≤ y ∧ y < 2 ^ 200 ∧ 0 ≤ z ∧ z ≤ n
theorem IsSrc.mono {m n : Int} {c : Cell} (h : IsSrc m c) (e : m ≤ n) : IsSrc n c := by
  obtain ⟨x, y, z, a, b1, b2, b3, b4, b5⟩ := h
  exact ⟨x, y, z, a, b1, b2, b3, b4, by omega⟩
theorem ixN_nat {n j : Nat} (hj : j < n) : ixN n (j : Int) = some j := Evl.ixN_nat hj
theorem atI_at {α : Type} {xs : List α} {j : Nat} {v : α} (h : xs[j]? = some v) : atI xs (j : Int) = some v := by
  have hj := (List.getElem?_eq_some_iff.mp h).1
  unfold atI
  rw [Evl.ixN_nat hj]
  exact h
theorem atI_last {α : Type} {xs : List α} {v : α} (h : xs[xs.length - 1]? = some v) (hn : xs ≠ []) : atI xs (-1) = some v := by
  have hl : 0 < xs.length := List.length_pos_iff.mpr hn
  unfold atI ixN
  rw [if_neg (by decide), if_pos (by omega)]
  have e : ((-1 : Int) + (xs.length : Int)).toNat = xs.length - 1 := by omega
  rw [e]
  exact h
end Wk
/-! ## WkF -/
/-! Points and their written form. -/
namespace Wk
open PySem L2 Evl

abbrev Pt := Int × Int
abbrev P2 (p : Pt) : Dt := .tup [.int p.1, .int p.2]
abbrev Pts (ps : List Pt) : Dt := .tup (ps.map P2)
abbrev Lps (ps : List Pt) : Dt := .lst (ps.map P2)
/-- all coordinates within B -/
def Bd (B : Int) (ps : List Pt) : Prop := ∀ p ∈ ps, -B ≤ p.1 ∧ p.1 ≤ B ∧ -B ≤ p.2 ∧ p.2 ≤ B
theorem Bd.mono {B C : Int} {ps : List Pt} (h : Bd B ps) (e : B ≤ C) : Bd C ps := fun p hp => by
  have q := h p hp
  omega

/-! the text of a number -/
abbrev wI (i : Int) : Str := Str.ofString (toString i)
theorem tl_wI_nn (n : Nat) : TL.tl (wI (n : Int)) = TL.numL n := TL.tl_num n
theorem tl_wI_neg (n : Nat) : TL.tl (wI (Int.negSucc n)) = 45 :: TL.numL (n + 1) := by
  have e : toString (Int.negSucc n) = "-" ++ toString (n + 1) := rfl
  have q := TL.tl_num (n + 1)
  rw [TL.tl_ofString] at q ⊢
  rw [e, String.toList_append, List.map_append]
  have e2 : toString ((((n + 1 : Nat)) : Int)) = toString (n + 1) := rfl
  rw [e2] at q
  rw [q]
  rfl
theorem wI_cases (i : Int) : (∃ n : Nat, i = (n : Int) ∧ TL.tl (wI i) = TL.numL n) ∨ (∃ n : Nat, i = -((n + 1 : Nat) : Int) ∧ TL.tl (wI i) = 45 :: TL.numL (n + 1)) := by
  cases i with
  | ofNat n => exact .inl ⟨n, rfl, tl_wI_nn n⟩
  | negSucc n => exact .inr ⟨n, rfl, tl_wI_neg n⟩
theorem wI_free {i : Int} {c : Nat} (h : c < 45 ∨ c = 46 ∨ c = 47 ∨ 57 < c) : c ∉ TL.tl (wI i) := by
  rcases wI_cases i with ⟨n, _, e⟩ | ⟨n, _, e⟩
  · rw [e]
    exact TL.numL_free (by omega)
  · rw [e]
    intro hc
    rcases List.mem_cons.mp hc with z | z
    · omega
    · exact TL.numL_free (by omega) z
theorem wI_len {i : Int} (h : i.natAbs < 2 ^ 200) : (wI i).length ≤ 62 := by
  have b : (2 : Nat) ^ 200 < 10 ^ 61 := by decide
  rw [TL.len_tl]
  rcases wI_cases i with ⟨n, en, e⟩ | ⟨n, en, e⟩
  · rw [e]
    have q := TL.numL_len (n := n) (k := 61) (by decide) (by omega)
    omega
  · rw [e, List.length_cons]
    have q := TL.numL_len (n := n + 1) (k := 61) (by decide) (by omega)
    omega
theorem wI_int {i : Int} (h : i.natAbs < 2 ^ 200) : intText? (wI i) = some i := by
  have hl := wI_len h
  rcases wI_cases i with ⟨n, en, e⟩ | ⟨n, en, e⟩
  · subst en
    refine TL.int_num ?_
    rw [← e, ← TL.len_tl]
    omega
  · have q := intText_neg (x := wI i) e (TL.numL_digits (n + 1)) (TL.numL_ne (n + 1)) (by omega)
    rw [TL.numL_val] at q
    rw [q, en]
theorem wI_inj {i j : Int} (h : wI i = wI j) : i = j := by
  have e : TL.tl (wI i) = TL.tl (wI j) := by rw [h]
  rcases wI_cases i with ⟨n, en, e1⟩ | ⟨n, en, e1⟩ <;> rcases wI_cases j with ⟨m, em, e2⟩ | ⟨m, em, e2⟩
  · rw [e1, e2] at e
    rw [en, em, TL.numL_inj e]
  · rw [e1, e2] at e
    exact absurd (show (45 : Nat) ∈ TL.numL n by rw [e]; exact List.mem_cons_self) (TL.numL_free (by omega))
  · rw [e1, e2] at e
    exact absurd (show (45 : Nat) ∈ TL.numL m by rw [← e]; exact List.mem_cons_self) (TL.numL_free (by omega))
  · rw [e1, e2] at e
    have q := TL.numL_inj (List.cons.inj e).2
    rw [en, em, q]
theorem log_lt {i : Int} (h : i.natAbs < 2 ^ 200) : i.natAbs.log2 < 1920 := Nat.lt_of_lt_of_le (PySem.Flt.log2_lt_of (by decide) h) (by decide)

/-! is_count, is_number -/
abbrev s0 : Str := "0"
abbrev sMinus : Str := "-"
abbrev sMinus0 : Str := "-0"
abbrev sComma : Str := ","
abbrev sBlank : Str := " "
def headS (w : Str) : Str := ⟨#[(TL.tl w).headD 0]⟩
def countF (w : Str) : Bool := decide (w = s0) || (Txt.isdigit w && !decide (headS w = s0))
def numF (w : Str) : Bool := countF w || (Txt.startswith w sMinus && (!decide (w = sMinus0) && countF (cutS w (some 1) none)))
theorem tl_s0 : TL.tl s0 = [48] := by decide +kernel
theorem tl_sMinus : TL.tl sMinus = [45] := by decide +kernel
theorem tl_sMinus0 : TL.tl sMinus0 = [45, 48] := by decide +kernel
theorem tl_sComma : TL.tl sComma = [44] := by decide +kernel
theorem tl_sBlank : TL.tl sBlank = [32] := by decide +kernel
theorem isdigit_of {w : Str} (h1 : TL.tl w ≠ []) (h : NumText.AllDigits (TL.tl w)) : Txt.isdigit w = true := by
  unfold Txt.isdigit
  rw [Bool.and_eq_true]
  refine ⟨decide_eq_true ?_, ?_⟩
  · rw [TL.len_tl]
    exact List.length_pos_iff.mpr h1
  · rw [← Array.all_toList, List.all_eq_true]
    intro c hc
    have q := h c hc
    have k : ∀ c, 48 ≤ c → c ≤ 57 → Unicode.isDigit c = true := by
      intro c h1 h2
      have e : c = 48 ∨ c = 49 ∨ c = 50 ∨ c = 51 ∨ c = 52 ∨ c = 53 ∨ c = 54 ∨ c = 55 ∨ c = 56 ∨ c = 57 := by omega
      rcases e with e | e | e | e | e | e | e | e | e | e <;> (rw [e]; decide +kernel)
    exact k c q.1 q.2
/-- no zero ahead -/
theorem numL_head : ∀ n : Nat, 0 < n → ∃ c r, TL.numL n = c :: r ∧ c ≠ 48 := by
  intro n
  induction n using Nat.strongRecOn with
  | _ n ih =>
    intro h0
    by_cases h : n < 10
    · exact ⟨48 + n, [], TL.numL_lt h, by omega⟩
    · obtain ⟨c, r, e, hc⟩ := ih (n / 10) (by omega) (by omega)
      exact ⟨c, r ++ [48 + n % 10], by rw [TL.numL_step (by omega), e] <;> rfl, hc⟩
theorem count_num {w : Str} {n : Nat} (e : TL.tl w = TL.numL n) : countF w = true := by
  unfold countF
  by_cases h0 : n = 0
  · subst h0
    have e2 : w = s0 := TL.ext_tl (by rw [e, tl_s0]; exact TL.numL_lt (by decide))
    rw [decide_eq_true e2, Bool.true_or]
  · obtain ⟨c, r, e1, hc⟩ := numL_head n (by omega)
    have d := isdigit_of (w := w) (by rw [e]; exact TL.numL_ne n) (by rw [e]; exact TL.numL_digits n)
    have hh : headS w ≠ s0 := fun z => by
      have q : TL.tl (headS w) = TL.tl s0 := by rw [z]
      rw [tl_s0] at q
      unfold headS at q
      rw [e, e1] at q
      exact hc (List.cons.inj q).1
    rw [d, decide_eq_false hh, Bool.not_false, Bool.and_self, Bool.or_true]
theorem cut1_tl (w : Str) : TL.tl (cutS w (some 1) none) = (TL.tl w).drop 1 := by
  have h1 : HT.sIx w.length 0 (some 1) = min 1 w.length := by
    unfold HT.sIx
    simp
  have h2 : HT.sIx w.length w.length none = w.length := rfl
  unfold cutS
  show (((w.cps.toList.drop (HT.sIx w.length 0 (some 1))).take (HT.sIx w.length w.length none - HT.sIx w.length 0 (some 1))).toArray).toList = _
  rw [h1, h2]
  have hl : w.cps.toList.length = w.length := (TL.len_tl w).symm
  show (w.cps.toList.drop (min 1 w.length)).take (w.length - min 1 w.length) = (TL.tl w).drop 1
  by_cases hw : w.length = 0
  · have e : w.cps.toList = [] := List.length_eq_zero_iff.mp (by rw [hl, hw])
    rw [e]
    simp [TL.tl, e]
  · have hm : min 1 w.length = 1 := by omega
    rw [hm]
    refine List.take_of_length_le ?_
    rw [List.length_drop, hl]
    omega
theorem starts_minus {w : Str} {r : List Nat} (e : TL.tl w = 45 :: r) : Txt.startswith w sMinus = true := by
  have hl : w.length = r.length + 1 := by rw [TL.len_tl, e, List.length_cons]
  have hm : sMinus.length = 1 := rfl
  unfold Txt.startswith
  rw [Bool.and_eq_true]
  refine ⟨decide_eq_true (by rw [hl, hm]; omega), ?_⟩
  unfold Builtin.Str.subAt
  rw [beq_iff_eq]
  apply Array.toList_inj.mp
  have q : (w.cps.extract 0 (0 + sMinus.length)).toList = (TL.tl w).take 1 := by
    rw [hm]
    simp [TL.tl]
  rw [q, e]
  exact tl_sMinus.symm
theorem num_wI (i : Int) : numF (wI i) = true := by
  unfold numF
  rcases wI_cases i with ⟨n, _, e⟩ | ⟨n, _, e⟩
  · rw [count_num e, Bool.true_or]
  · have h1 := starts_minus e
    have h2 : wI i ≠ sMinus0 := fun z => by
      rw [z, tl_sMinus0] at e
      have q := (List.cons.inj e).2
      have q2 := TL.numL_val (n + 1)
      rw [← q] at q2
      have q3 : NumText.digitsVal [48] = 0 := by decide
      omega
    have h3 : countF (cutS (wI i) (some 1) none) = true := count_num (n := n + 1) (by rw [cut1_tl, e] <;> rfl)
    rw [h1, h3, decide_eq_false h2] <;> simp

/-! the text of a point, of points -/
def wP (p : Pt) : Str := wI p.1 ++ sComma ++ wI p.2
def wPs (ps : List Pt) : Str := Txt.join sBlank (ps.map wP)
theorem wP_tl (p : Pt) : TL.tl (wP p) = TL.tl (wI p.1) ++ (44 :: TL.tl (wI p.2)) := by
  unfold wP
  rw [TL.tl_append, TL.tl_append, tl_sComma, List.append_assoc] <;> rfl
theorem wP_join (p : Pt) : wP p = Txt.join sComma [wI p.1, wI p.2] := by
  rw [TL.join_eq] <;> rfl
theorem split_wP (p : Pt) : Txt.split (wP p) sComma = [wI p.1, wI p.2] := by
  rw [wP_join]
  refine TL.split_join (s := 44) (S := []) tl_sComma (by decide +kernel) (by simp) fun w hw => ?_
  rcases List.mem_cons.mp hw with e | hw
  · rw [e]
    exact wI_free (by omega)
  · rw [List.mem_singleton.mp hw]
    exact wI_free (by omega)
theorem wP_free (p : Pt) : 32 ∉ TL.tl (wP p) := by
  rw [wP_tl]
  intro h
  rcases List.mem_append.mp h with h | h
  · exact wI_free (by omega) h
  · rcases List.mem_cons.mp h with h | h
    · omega
    · exact wI_free (by omega) h
theorem split_wPs {ps : List Pt} (h : ps ≠ []) : Txt.split (wPs ps) sBlank = ps.map wP := by
  refine TL.split_join (s := 32) (S := []) tl_sBlank (by decide +kernel) (fun e => h (List.map_eq_nil_iff.mp e)) fun w hw => ?_
  obtain ⟨p, _, rfl⟩ := List.mem_map.mp hw
  exact wP_free p
/-- coordinates that may be written and read -/
def Small (ps : List Pt) : Prop := ∀ p ∈ ps, p.1.natAbs < 2 ^ 200 ∧ p.2.natAbs < 2 ^ 200
theorem Small.of {B : Int} {ps : List Pt} (h : Bd B ps) (hB : B < 2 ^ 190) : Small ps := fun p hp => by
  have q := h p hp
  have e : (2 : Int) ^ 190 < 2 ^ 200 := by decide
  exact ⟨abs_lt (by omega) (by omega), abs_lt (by omega) (by omega)⟩
theorem wP_len {p : Pt} (h : p.1.natAbs < 2 ^ 200 ∧ p.2.natAbs < 2 ^ 200) : (wP p).length ≤ 125 := by
  have h1 := wI_len h.1
  have h2 := wI_len h.2
  rw [TL.len_tl] at h1 h2
  rw [TL.len_tl, wP_tl, List.length_append, List.length_cons]
  omega
theorem sum_len {ps : List Pt} (h : Small ps) : ((ps.map wP).map (·.length)).sum ≤ 125 * ps.length := by
  induction ps with
  | nil => exact Nat.zero_le _
  | cons p ps ih =>
    have h1 := wP_len (h p List.mem_cons_self)
    have h2 := ih fun q hq => h q (List.mem_cons_of_mem _ hq)
    rw [List.map_cons, List.map_cons, List.sum_cons, List.length_cons]
    omega
theorem wPs_len {ps : List Pt} (h : Small ps) : (wPs ps).length ≤ 126 * ps.length := by
  have q := StrLaws.join_length_le sBlank (ps.map wP)
  have h2 := sum_len h
  unfold wPs
  rw [TL.join_eq]
  have e : sBlank.length = 1 := rfl
  rw [e, List.length_map] at q
  omega
end Wk
/-! ## WkG -/
/-! enumerate over a tuple. -/
namespace Wk
open PySem PySem.Spec PyProof.Rows L2
open Sem (wp)
open AutoSeq1 (wpAny_loadPart')

theorem meets_enumerate_newT (l : Addr) (items : Array Value) (n : Nat) (dct : Option Addr) (sl : Array (Option Value)) :
    Meets (Builtin.«enumerate.__new__» ⟨[.type "enumerate", .ref l], []⟩) (fun _ R s => s.heap.get? l = some { cls := .type "tuple", dict := dct, data := .seq items n, slots := sl } ∧
      R (.ok (.ret (.ref (s.heap.push { cls := .type "tuple_iterator", data := .fields #[.ref l, .int 0 0] }).objs.size)))
        { s with heap := (s.heap.push { cls := .type "tuple_iterator", data := .fields #[.ref l, .int 0 0] }).push { cls := .type "enumerate", data := .fields #[.none, .bool false, .ref s.heap.objs.size, rawInt 0, .none, .none] } }) :=
  .of_wp fun prog w A R s h => by
    obtain ⟨hp, g, d, tk, os⟩ := s; obtain ⟨hl, h⟩ := h
    have hsub := sub_enumerate
    have hL : Heap.IsTuple (Shared.heap ⟨hp, g, d, tk, os⟩) l items := ⟨_, hl, rfl, n, rfl⟩
    wp_walk using wpAny_loadPart' hl
    refine wpAny_stack_any fun st => wpAny_pure ?_
    split
    · rename_i c _ _ _ _ _
      cases (c == Value.type "enumerate")
      · wp_walk using wpAny_loadPart' hl, wpAny_pyIter_tuple hL
        exact ⟨_, rfl, h⟩
      · wp_walk using wpAny_loadPart' hl, wpAny_pyIter_tuple hL
        exact ⟨_, rfl, h⟩
    · wp_walk using wpAny_loadPart' hl, wpAny_pyIter_tuple hL
      exact ⟨_, rfl, h⟩
section
variable {prog : Program} {w : World} {A : Around} {E : Value → Shared → Prop} {s : Shared}
theorem call_enumerate_tup {l : Addr} {items : Array Value} {Q : Value → Shared → Prop} (hL : s.heap.IsTuple l items)
    (h : ∀ h', IsEnum h' (s.heap.objs.size + 1) s.heap.objs.size 0 .none → h'.IsTupleIter s.heap.objs.size l 0 → h'.objs.size = s.heap.objs.size + 2 →
      (∀ b o, s.heap.get? b = some o → h'.get? b = some o) → Q (.ref (s.heap.objs.size + 1)) { s with heap := h' }) :
    wpAny (model prog w) A (call (.type "enumerate") [.ref l]) Q E s := by
  obtain ⟨⟨c, dct, dt, sl⟩, hl, hc, n, hd⟩ := hL
  replace hc : c = .type "tuple" := hc
  replace hd : dt = .seq items n := hd
  subst hc hd
  refine callType_new F.called_enumerate (by decide) (F.typeCall_enumerate_1 _) (F.newCall_enumerate_1 _) (fun obj => F.args_object_init_2 obj _) F.entry_enumerate_new
    (meets_enumerate_newT l items n dct sl) ⟨hl, ?_⟩
  have hz : (s.heap.push { cls := .type "tuple_iterator", data := .fields #[.ref l, .int 0 0] }).objs.size = s.heap.objs.size + 1 := Heap.size_push ..
  show _ ∧ _
  rw [hz]
  have he : IsEnum ((s.heap.push { cls := .type "tuple_iterator", data := .fields #[.ref l, .int 0 0] }).push
      { cls := .type "enumerate", data := .fields #[.none, .bool false, .ref s.heap.objs.size, rawInt 0, .none, .none] }) (s.heap.objs.size + 1) s.heap.objs.size 0 .none := by
    have := Heap.get?_push_size (s.heap.push { cls := .type "tuple_iterator", data := .fields #[.ref l, .int 0 0] })
      (o := { cls := .type "enumerate", data := .fields #[.none, .bool false, .ref s.heap.objs.size, rawInt 0, .none, .none] }) rfl
    rw [hz] at this; exact this
  refine ⟨⟨_, he, rfl⟩, h _ he ⟨_, Heap.get?_push_of_some _ (Heap.get?_push_size _ rfl), rfl, rfl⟩ (by rw [Heap.size_push, hz]) fun b o x => Heap.get?_push_of_some _ (Heap.get?_push_of_some _ x)⟩
end
def IteT (K : PySem.W.Frag) (a : Addr) : It :=
  ⟨fun i H => ∃ (xs : List V) (x : V), SqT K H a xs ∧ xs[i]? = some x, fun i H v H' => ∃ T x, v = .ref T ∧ H T = none ∧ H' = upd H T (.tup [.int (i : Nat), x]) ∧ ∀ xs, SqT K H a xs → xs[i]? = some x, fun i H => ∃ xs : List V, SqT K H a xs ∧ xs.length ≤ i⟩
theorem enum_ne {h : Heap} {e it a : Addr} {i : Int} {old : Value} {items : Array Value} (he : IsEnum h e it i old) (ha : h.IsTuple a items) : e ≠ a := fun z => by
  obtain ⟨o, ho, hc, _⟩ := ha
  rw [← z, he] at ho
  have e2 := Option.some.inj ho
  rw [← e2] at hc
  injection hc with q
  exact absurd q (by decide)
theorem turn_enumT {P : Program} {w : World} {K : PySem.W.Frag} {elts : List Expr} {kk : Nat} {tpos : Pos} (a e it : Addr) (hat : a ≠ it) :
    Turn P w K (.Tuple elts kk tpos) (IteT K a) [e, it] e (fun i h => (∃ old, IsEnum h e it ((i : Nat) : Int) old) ∧ h.IsTupleIter it a i ∧ e ≠ it) where
  mem := by simp
  obj := fun i h st b hb => by
    obtain ⟨⟨old, he⟩, ⟨o, ho, hc, hd⟩, _⟩ := st
    have e' : b = e ∨ b = it := by simpa using hb
    rcases e' with z | z
    · rw [z]; exact ⟨_, he, fun v q => nomatch q⟩
    · rw [z]; exact ⟨o, ho, fun v q => by rw [hd] at q; cases q⟩
  keep := fun i h h' st k => let ⟨⟨old, he⟩, hi, hne⟩ := st; ⟨⟨old, k e (by simp) _ he⟩, hi.at fun o q => k it (by simp) o q, hne⟩
  item := by
    intro X hP hw hK hc i pins s σ H E I hf st hg
    subst hP hw hK
    obtain ⟨⟨old, he⟩, hit, hne⟩ := st
    obtain ⟨xs, x, hq, hx⟩ := hg
    obtain ⟨its, rv, p, hz⟩ := I.tuple hq
    obtain ⟨u, hu, ru⟩ := rv.get hx
    have hel : e < s.heap.objs.size := Heap.lt_size he
    have hil : it < s.heap.objs.size := by obtain ⟨_, q, _⟩ := hit; exact Heap.lt_size q
    have hia : i < its.toArray.size := by
      have q := (List.getElem?_eq_some_iff.mp hu).1
      simpa using q
    have hea : e ≠ a := enum_ne he p
    refine wpAny_pyNext_enum_itemD (Draws.tuple (show X.A.in1.handled = none from I.ok.hd hc) it a hat its.toArray) he ⟨hit, p⟩ hia hne (by simp [hne, hea]) fun y h' tk hy ho hst hT hsz hk => ?_
    obtain rfl : y = u := by
      have q : its.toArray[i]? = some u := by simpa using hu
      rw [q] at hy
      exact (Option.some.inj hy).symm
    refine ⟨_, rfl, wpAny_letOwnedTupleGo_enum (s := { s with heap := h', toks := tk + 1 }) ho fun h'' he' sb => ?_⟩
    have hT2 : h''.get? s.heap.objs.size = some { cls := .type "tuple", data := .seq #[.int i tk, y] } := (sb.2 _ (Nat.ne_of_gt hel)).trans hT
    have new : ObjOk X.prog X.w (upd H s.heap.objs.size (.tup [.int (i : Nat), x])) h'' s.heap.objs.size (.tup [.int (i : Nat), x]) :=
      ⟨by show 2 ≤ sizeLine; decide, [.int i tk, y], .cons ⟨_, rfl⟩ (.cons ru .nil), ⟨_, hT2, rfl, _, rfl⟩⟩
    have I1 : Inv X pins σ (upd H s.heap.objs.size (.tup [.int (i : Nat), x])) { s with heap := h'', toks := tk + 1 } :=
      I.turnedNew (ch := [e, it]) (fun b ob hb q => (sb.2 b (fun z => hb (by simp [z]))).trans (hk b ob (fun z => hb (by simp [z])) (fun z => hb (by simp [z])) q)) hf (Nat.le_refl _) new
    refine ⟨.ref s.heap.objs.size, _, I1, rfl, ⟨_, x, rfl, I.hok.fresh (Nat.le_refl _), rfl, fun ys hy => by rw [I.tuple_inj hy hq]; exact hx⟩, ⟨⟨y, ?_⟩, hst.1.at fun o q => (sb.2 it (Ne.symm hne)).trans q, hne⟩, fun b hb => ?_⟩
    · have e1 : ((i + 1 : Nat) : Int) = (i : Int) + 1 := by omega
      rw [e1]; exact he'
    · have hb' : b < s.heap.objs.size := by
        have e' : b = e ∨ b = it := by simpa using hb
        rcases e' with z | z
        · rw [z]; exact hel
        · rw [z]; exact hil
      rw [upd_ne (Nat.ne_of_lt hb')]
      exact (hf b hb).1
  done := by
    intro X hP hw hK hc i pins s σ H E I hf st hg
    subst hP hw hK
    obtain ⟨⟨old, he⟩, hit, hne⟩ := st
    obtain ⟨xs, hq, hx⟩ := hg
    obtain ⟨its, rv, p, hz⟩ := I.tuple hq
    obtain ⟨f0, f1, f2, f3, f4, f5⟩ := hf it (by simp)
    have hl := rv.length
    have hT : s.TypeIs (.ref e) "enumerate" := ⟨_, he, rfl⟩
    have nx : ∀ (Q : Option Value → Shared → Prop), (∀ h', Heap.ExtBut it s.heap h' → Q none { s with heap := h' }) → wpAny (model X.prog X.w) X.A (pyNext (.ref e)) Q E s := fun Q hQ => by
      unfold pyNext
      refine wpAny_bind (wpAny_attempt (wpAny_callSpecial?_slot (name := Str.ofString "__next__") hT F.slot_enumerate_next
        (wpAny_call_entry F.slot_enumerate_next hT F.entry_enumerate_next ?_ (F.args_enumerate_next_1 _))))
      show wpAny _ _ (field (.ref e) 2 >>= _) _ _ _
      refine wpAny_bind (wpAny_field he rfl (x := .ref it) rfl ?_)
      refine wpAny_bind (wpAny_nextOf_tuple_end (show X.A.in1.handled = none from I.ok.hd hc) hit (show s.heap.IsTuple a its.toArray from p) (by simp; omega) fun h' x he' hx' => ?_)
      obtain ⟨o, ho, hc⟩ := hx'
      refine wpAny_bind (wpAny_isInstance (T := "StopIteration") (b := true) ⟨o, ho, hc⟩ isSubtype_stop ?_)
      exact wpAny_pure (hQ _ he')
    exact nx _ fun h' eb => ⟨rfl, I.turned (t' := s.toks) (fun b o hb q => eb b o hb q) f0 f1 f3 f4 f5⟩
  self := fun A i s Q E st h => let ⟨⟨_, he⟩, _⟩ := st; wpAny_pyIter_enum he h
def iEnumA (K : PySem.W.Frag) (ta : TA) : TI := fun σ H R => ta σ H fun vs H1 => ∃ a xs, vs = [.ref a] ∧ ((SqL K H1 a xs ∧ R (Ite K a) H1) ∨ (SqT K H1 a xs ∧ R (IteT K a) H1))
theorem pi_enumA {X : Cx} {e : Expr} {ta : TA} {p pos tpos : Pos} {elts : List Expr} {kk : Nat} (hg : Gl X "enumerate") (hm : X.mg "enumerate" = none) (ha : PA X [e] ta) (hs : starEach [e] X.env = [(false, eval e X.env)] := by rfl) :
    PI X (.Tuple elts kk tpos) (.Call (.Name "enumerate" p) [e] [] pos) (iEnumA X.K ta) := by
  refine ⟨fun pins s σ H R I h => ?_⟩
  refine Call_ (ld_blt I hg hm boot_enumerate (PyProof.Rows.callWith_type1 (thn (ha.run pos pins s σ H _ I h) fun us s1 ⟨vs, H1, I1, r1, q1⟩ => ?_) hs rfl))
  obtain ⟨a, xs, ex, q⟩ := q1
  subst ex
  cases r1 with
  | cons r rr =>
    cases rr
    cases r
    rcases q with ⟨hq, q⟩ | ⟨hq, q⟩
    · obtain ⟨its, rv, p', hz⟩ := I1.list hq
      refine call_enumerate_list p'.isList fun h' he hit hsz hk => wpAny_pyIter_enum he ?_
      have I2 : Inv X pins σ H1 { s1 with heap := h' } := I1.kept (t' := s1.toks) hk
      refine ⟨s1.heap.objs.size + 1, [s1.heap.objs.size + 1, s1.heap.objs.size], _, _, H1, rfl, I2, turn_enum a (s1.heap.objs.size + 1) s1.heap.objs.size, ⟨⟨.none, he⟩, hit, Nat.succ_ne_self _⟩, fun b hb => ?_, q⟩
      have e' : b = s1.heap.objs.size + 1 ∨ b = s1.heap.objs.size := by simpa using hb
      have hle : s1.heap.objs.size ≤ b := by
        rcases e' with z | z
        · rw [z]; exact Nat.le_add_right _ _
        · rw [z]; exact Nat.le_refl _
      exact I1.fpOk hle (I1.hok.fresh hle)
    · obtain ⟨its, rv, p', hz⟩ := I1.tuple hq
      have hal : a < s1.heap.objs.size := by obtain ⟨o, ho, _⟩ := id p'; exact Heap.lt_size ho
      refine call_enumerate_tup (show s1.heap.IsTuple a its.toArray from p') fun h' he hit hsz hk => wpAny_pyIter_enum he ?_
      have I2 : Inv X pins σ H1 { s1 with heap := h' } := I1.kept (t' := s1.toks) hk
      refine ⟨s1.heap.objs.size + 1, [s1.heap.objs.size + 1, s1.heap.objs.size], _, _, H1, rfl, I2, turn_enumT a (s1.heap.objs.size + 1) s1.heap.objs.size (Nat.ne_of_lt hal), ⟨⟨.none, he⟩, hit, Nat.succ_ne_self _⟩, fun b hb => ?_, q⟩
      have e' : b = s1.heap.objs.size + 1 ∨ b = s1.heap.objs.size := by simpa using hb
      have hle : s1.heap.objs.size ≤ b := by
        rcases e' with z | z
        · rw [z]; exact Nat.le_add_right _ _
        · rw [z]; exact Nat.le_refl _
      exact I1.fpOk hle (I1.hok.fresh hle)
end Wk
namespace Wk
open PySem L2 Evl
section
variable {K : PySem.W.Frag} {ρ : Rho} {M : Mm} {Ψ : List Dt → (Mm → Prop) → Mm → Prop} {ta : TA}
def enumD (xs : List Dt) : List Dt := (List.range xs.length).map fun i => .tup [.int (i : Nat), xs.getD i .non]
theorem enumD_len {xs : List Dt} : (enumD xs).length = xs.length := by unfold enumD; rw [List.length_map, List.length_range]
theorem enumD_get {xs : List Dt} {i : Nat} {x : Dt} (h : xs[i]? = some x) : (enumD xs)[i]? = some (.tup [.int (i : Nat), x]) := by
  have hi := (List.getElem?_eq_some_iff.mp h).1
  unfold enumD
  rw [List.getElem?_map, List.getElem?_range hi]
  show some (Dt.tup [.int (i : Nat), xs.getD i .non]) = _
  rw [List.getD_eq_getElem?_getD, h] <;> rfl
theorem enumD_inv {xs : List Dt} {i : Nat} {d : Dt} (h : (enumD xs)[i]? = some d) : ∃ x, xs[i]? = some x ∧ d = .tup [.int (i : Nat), x] := by
  have hi := (List.getElem?_eq_some_iff.mp h).1
  rw [enumD_len] at hi
  have e := enumD_get (List.getElem?_eq_getElem hi)
  rw [e] at h
  exact ⟨_, List.getElem?_eq_getElem hi, (Option.some.inj h).symm⟩
theorem ix_enum (h : AX K ta ρ M (fun ds M1 => ∃ d xs G, ds = [d] ∧ WSrc M1 d xs G ∧ Ψ (enumD xs) G M1)) : IX K (iEnumA K ta) ρ M Ψ := fun B H H1 σ o s R q =>
  h B H H1 σ o s _ fun vs ds M' H' H2 z k e r => by
    obtain ⟨d, xs, G, rfl, hs, z⟩ := z
    cases r with
    | cons r rr =>
      cases rr
      have wl : ∀ {a : Addr} {us : List V}, (∀ B H3 H4 M3, Ok K B H3 H4 M3 → Ex H' H3 → G M3 → ∃ us, SqL K H4 a us ∧ RpAll K H3 us xs) → WalkD K (Ite K a) G H' (enumD xs) := fun {a us} h => ⟨fun i B H3 H4 M3 hi o e g => by
        obtain ⟨us, h1, r⟩ := h B H3 H4 M3 o e g
        have hi' : i < us.length := by rw [r.length, ← enumD_len]; exact hi
        exact ⟨us, us[i], h1, List.getElem?_eq_getElem hi'⟩, fun B H3 H4 M3 o e g => by
        obtain ⟨us, h1, r⟩ := h B H3 H4 M3 o e g
        exact ⟨us, h1, by rw [r.length, enumD_len]; exact Nat.le_refl _⟩, fun i x H5 B H3 H4 M3 hi o e g y => by
        obtain ⟨us, h1, r⟩ := h B H3 H4 M3 o e g
        obtain ⟨T, v, y1, y2, y3, y4⟩ := y
        obtain ⟨d, h2, h3⟩ := r.getV (y4 us h1)
        exact .inr ⟨T, _, [.int (i : Nat), d], y1, y2, y3, .cons (.int _) (.one h3), enumD_get h2⟩⟩
      have wt : ∀ {a : Addr} {us : List V}, (∀ B H3 H4 M3, Ok K B H3 H4 M3 → Ex H' H3 → G M3 → ∃ us, SqT K H4 a us ∧ RpAll K H3 us xs) → WalkD K (IteT K a) G H' (enumD xs) := fun {a us} h => ⟨fun i B H3 H4 M3 hi o e g => by
        obtain ⟨us, h1, r⟩ := h B H3 H4 M3 o e g
        have hi' : i < us.length := by rw [r.length, ← enumD_len]; exact hi
        exact ⟨us, us[i], h1, List.getElem?_eq_getElem hi'⟩, fun B H3 H4 M3 o e g => by
        obtain ⟨us, h1, r⟩ := h B H3 H4 M3 o e g
        exact ⟨us, h1, by rw [r.length, enumD_len]; exact Nat.le_refl _⟩, fun i x H5 B H3 H4 M3 hi o e g y => by
        obtain ⟨us, h1, r⟩ := h B H3 H4 M3 o e g
        obtain ⟨T, v, y1, y2, y3, y4⟩ := y
        obtain ⟨d, h2, h3⟩ := r.getV (y4 us h1)
        exact .inr ⟨T, _, [.int (i : Nat), d], y1, y2, y3, .cons (.int _) (.one h3), enumD_get h2⟩⟩
      rcases hs with ⟨rfl | rfl | rfl, rfl⟩ | ⟨a, rfl, hm, rfl⟩
      · obtain ⟨a, us, rfl, h1, r1⟩ := r.lst_inv
        exact ⟨a, us, rfl, .inl ⟨sq_of (k.h _ _ h1), q _ _ _ M' H' H2 z k e (wl (us := us) fun B H3 H4 M3 o e g => ⟨us, sq_of (o.h _ _ (e _ _ h1)), r1.mono e⟩)⟩⟩
      · obtain ⟨a, us, rfl, h1, r1⟩ := r.frl_inv
        exact ⟨a, us, rfl, .inl ⟨ex_l k.h h1, q _ _ _ M' H' H2 z k e (wl (us := us) fun B H3 H4 M3 o e g => ⟨us, ex_l o.h (ex_l e h1), r1.mono e⟩)⟩⟩
      · obtain ⟨a, us, rfl, h1, r1⟩ := r.tup_inv
        exact ⟨a, us, rfl, .inr ⟨ex_t k.h h1, q _ _ _ M' H' H2 z k e (wt (us := us) fun B H3 H4 M3 o e g => ⟨us, ex_t o.h (ex_t e h1), r1.mono e⟩)⟩⟩
      · obtain ⟨m1, m2, us, h1, r1⟩ := k.m a _ hm
        exact ⟨a, us, by rw [r.raw_inv], .inl ⟨sq_of h1, q _ _ _ M' H' H2 z k e (wl (us := us) fun B H3 H4 M3 o e g => by
          obtain ⟨m1, m2, us, h1, r1⟩ := o.m a _ g
          exact ⟨us, sq_of h1, r1⟩)⟩⟩
/-- zip of two tuples, of two lists: data -/
def zipD (xs ys : List Dt) : List Dt := (List.range (min xs.length ys.length)).map fun i => .tup [xs.getD i .non, ys.getD i .non]
theorem zipD_len {xs ys : List Dt} : (zipD xs ys).length = min xs.length ys.length := by unfold zipD; rw [List.length_map, List.length_range]
theorem zipD_get {xs ys : List Dt} {i : Nat} {x y : Dt} (h : xs[i]? = some x) (h2 : ys[i]? = some y) : (zipD xs ys)[i]? = some (.tup [x, y]) := by
  have hi := (List.getElem?_eq_some_iff.mp h).1
  have hj := (List.getElem?_eq_some_iff.mp h2).1
  unfold zipD
  rw [List.getElem?_map, List.getElem?_range (by omega)]
  show some (Dt.tup [xs.getD i .non, ys.getD i .non]) = _
  rw [List.getD_eq_getElem?_getD, List.getD_eq_getElem?_getD, h, h2] <;> rfl
theorem zipD_inv {xs ys : List Dt} {i : Nat} {d : Dt} (h : (zipD xs ys)[i]? = some d) : ∃ x y, xs[i]? = some x ∧ ys[i]? = some y ∧ d = .tup [x, y] := by
  have hi := (List.getElem?_eq_some_iff.mp h).1
  rw [zipD_len] at hi
  have h1 : i < xs.length := by omega
  have h2 : i < ys.length := by omega
  have e := zipD_get (List.getElem?_eq_getElem h1) (List.getElem?_eq_getElem h2)
  rw [e] at h
  exact ⟨_, _, List.getElem?_eq_getElem h1, List.getElem?_eq_getElem h2, (Option.some.inj h).symm⟩
theorem ix_zip (h : AX K ta ρ M (fun ds M1 => ∃ xs ys, (ds = [.tup xs, .tup ys] ∨ ds = [.lst xs, .lst ys]) ∧ Ψ (zipD xs ys) (fun _ => True) M1)) : IX K (RZ.iZipA K ta) ρ M Ψ := fun B H H1 σ o s R q =>
  h B H H1 σ o s _ fun vs ds M' H' H2 z k e r => by
    obtain ⟨xs, ys, hd, z⟩ := z
    rcases hd with rfl | rfl
    · cases r with
      | cons ra rr =>
        cases rr with
        | cons rb rr =>
          cases rr
          obtain ⟨a, us, rfl, h1, r1⟩ := ra.tup_inv
          obtain ⟨b, ws, rfl, h2, r2⟩ := rb.tup_inv
          refine ⟨a, b, us, ws, rfl, .inr ⟨ex_t k.h h1, ex_t k.h h2, q _ _ _ M' H' H2 z k e ⟨fun i B H3 H4 M3 hi o e g => ?_, fun B H3 H4 M3 o e g => ?_, fun i x H5 B H3 H4 M3 hi o e g y => ?_⟩⟩⟩
          · rw [zipD_len] at hi
            have h1' : i < us.length := by rw [r1.length]; omega
            have h2' : i < ws.length := by rw [r2.length]; omega
            exact ⟨us, ws, us[i], ws[i], ex_t o.h (ex_t e h1), ex_t o.h (ex_t e h2), List.getElem?_eq_getElem h1', List.getElem?_eq_getElem h2'⟩
          · exact ⟨us, ws, ex_t o.h (ex_t e h1), ex_t o.h (ex_t e h2), by rw [r1.length, r2.length, zipD_len]; omega⟩
          · obtain ⟨T, x1, x2, y1, y2, y3, y4, y5⟩ := y
            obtain ⟨d1, g1, g2⟩ := r1.getV (y4 us (ex_t o.h (ex_t e h1)))
            obtain ⟨d2, g3, g4⟩ := r2.getV (y5 ws (ex_t o.h (ex_t e h2)))
            exact .inr ⟨T, _, [d1, d2], y1, y2, y3, .cons (g2.mono e) (.one (g4.mono e)), zipD_get g1 g3⟩
    · cases r with
      | cons ra rr =>
        cases rr with
        | cons rb rr =>
          cases rr
          obtain ⟨a, us, rfl, h1, r1⟩ := ra.lst_inv
          obtain ⟨b, ws, rfl, h2, r2⟩ := rb.lst_inv
          refine ⟨a, b, us, ws, rfl, .inl ⟨sq_of (k.h _ _ h1), sq_of (k.h _ _ h2), q _ _ _ M' H' H2 z k e ⟨fun i B H3 H4 M3 hi o e g => ?_, fun B H3 H4 M3 o e g => ?_, fun i x H5 B H3 H4 M3 hi o e g y => ?_⟩⟩⟩
          · rw [zipD_len] at hi
            have h1' : i < us.length := by rw [r1.length]; omega
            have h2' : i < ws.length := by rw [r2.length]; omega
            exact ⟨us, ws, us[i], ws[i], sq_of (o.h _ _ (e _ _ h1)), sq_of (o.h _ _ (e _ _ h2)), List.getElem?_eq_getElem h1', List.getElem?_eq_getElem h2'⟩
          · exact ⟨us, ws, sq_of (o.h _ _ (e _ _ h1)), sq_of (o.h _ _ (e _ _ h2)), by rw [r1.length, r2.length, zipD_len]; omega⟩
          · obtain ⟨T, x1, x2, y1, y2, y3, y4, y5⟩ := y
            obtain ⟨d1, g1, g2⟩ := r1.getV (y4 us (sq_of (o.h _ _ (e _ _ h1))))
            obtain ⟨d2, g3, g4⟩ := r2.getV (y5 ws (sq_of (o.h _ _ (e _ _ h2))))
            exact .inr ⟨T, _, [d1, d2], y1, y2, y3, .cons (g2.mono e) (.one (g4.mono e)), zipD_get g1 g3⟩
end
end Wk
/-! ## WkH -/
/-! list(zip(a, b)), tuples: the pairs stay. -/
namespace Wk
open PySem PySem.Spec PyProof.Rows L2
open Sem (wp)

abbrev ZHeld (h : Heap) (z TI TO T : Addr) (f : Bool) : Prop :=
  h.get? z = some { cls := .type "zip", dict := none, data := .fields #[rawInt T, .bool f, .bool false, .ref TI, .ref TO], slots := #[] }
section
variable {prog : Program} {w : World} {A : Around} {E : Value → Shared → Prop} {s : Shared}
theorem alive_obj {a : Addr} {o : Obj} {Q : Option Obj → Shared → Prop} (ho : s.heap.get? a = some o) (h : Q (some o) s) : wpAny (model prog w) A (loadIfAlive a) Q E s := by
  have h' : Q (s.heap.get? a) s := by rw [ho]; exact h
  exact fun _ _ _ => h'
theorem held_free {z TI TO T : Addr} {f : Bool} {oT : Obj} {Q : Bool → Shared → Prop} (hz : ZHeld s.heap z TI TO T f) (hT : s.heap.get? T = some oT)
    (h : ∀ h', ZHeld h' z TI TO T true → Heap.SameBut z s.heap h' → Q false { s with heap := h' }) : wpAny (model prog w) A (Builtin.SmallTypes.ownedTupleIsFree (.ref z)) Q E s := by
  unfold Builtin.SmallTypes.ownedTupleIsFree
  refine wpAny_bind (wpAny_field hz rfl (x := rawInt T) rfl ?_)
  show wpAny _ _ (loadIfAlive ((T : Int).toNat) >>= _) _ _ _
  rw [Int.toNat_natCast]
  refine wpAny_bind (alive_obj hT ?_)
  simp only [Option.isNone_some, Bool.false_eq_true, if_false]
  refine wpAny_bind (wpAny_field hz rfl (x := .bool f) rfl ?_)
  cases f with
  | true =>
    rw [if_neg (show ¬ ((Value.bool true != Value.bool true) = true) from Bool.false_ne_true)]
    exact wpAny_pure (h s.heap hz (Heap.SameBut.refl _ _))
  | false =>
    rw [if_pos (show (Value.bool false != Value.bool true) = true from rfl)]
    exact wpAny_bind (wpAny_setField_rec hz (by simp) fun h₁ hz₁ hs₁ => wpAny_pure (h h₁ hz₁ hs₁))
theorem zipH_item {z TI TO T i1 i2 l1 l2 : Addr} {f : Bool} {oT : Obj} {k1 k2 : Nat} {xs ys : Array Value} {x y : Value} {Q : Value → Shared → Prop} (D : ZipApart z TI TO i1 i2 l1 l2)
    (hz : ZHeld s.heap z TI TO T f) (hT : s.heap.get? T = some oT) (hTI : IsPair s.heap TI (.ref i1) (.ref i2))
    (h1 : s.heap.IsTupleIter i1 l1 k1) (h2 : s.heap.IsTupleIter i2 l2 k2) (hl1 : s.heap.IsTuple l1 xs) (hl2 : s.heap.IsTuple l2 ys) (hx : xs[k1]? = some x) (hy : ys[k2]? = some y)
    (hQ : ∀ h', ZHeld h' z TI TO T true → h'.IsTupleIter i1 l1 (k1 + 1) → h'.IsTupleIter i2 l2 (k2 + 1) → IsPair h' s.heap.objs.size x y → h'.objs.size = s.heap.objs.size + 1 →
      (∀ c o, c ≠ z → c ≠ i1 → c ≠ i2 → s.heap.get? c = some o → h'.get? c = some o) → Q (.ref s.heap.objs.size) { s with heap := h' }) :
    wpAny (model prog w) A (Builtin.«zip.__next__» ⟨[.ref z], []⟩) (fun fin s' => ∃ v, fin = .done (.ret v) ∧ Q v s') E s := by
  show wpAny _ _ (field (.ref z) 2 >>= _) _ _ _
  refine wpAny_bind (wpAny_field hz rfl (x := .bool false) rfl ?_)
  show wpAny _ _ (field (.ref z) 3 >>= _) _ _ _
  refine wpAny_bind (wpAny_field hz rfl (x := .ref TI) rfl ?_)
  refine wpAny_bind (wpAny_seqItems hTI rfl ?_)
  show wpAny _ _ (Builtin.SmallTypes.ownedTupleIsFree (.ref z) >>= _) _ _ _
  refine wpAny_bind (held_free hz hT fun h₁ hz₁ hs₁ => ?_)
  simp only [Bool.false_eq_true, if_false]
  refine wpAny_bind ?_
  rw [← Array.forIn_toList]
  simp only [List.forIn_cons, List.forIn_nil]
  refine wpAny_bind (wpAny_bind (wpAny_holding ?_))
  show wpAny _ _ (Builtin.SmallTypes.nextOf (.ref i1) >>= _) _ _ _
  refine wpAny_bind (RZ.nextOf_tuple_item (s := { s with heap := h₁ }) (h1.extBut hs₁.extBut D.i1z) (hl1.extBut hs₁.extBut D.l1z) hx fun h₂ h1₂ hs₂ => wpAny_pure ?_)
  refine wpAny_pure ?_
  refine wpAny_bind (wpAny_bind (wpAny_holding ?_))
  show wpAny _ _ (Builtin.SmallTypes.nextOf (.ref i2) >>= _) _ _ _
  refine wpAny_bind (RZ.nextOf_tuple_item (s := { s with heap := h₂ }) ((h2.extBut hs₁.extBut D.i2z).extBut hs₂.extBut D.i12.symm) ((hl2.extBut hs₁.extBut D.l2z).extBut hs₂.extBut D.l2i1) hy fun h₃ h2₃ hs₃ => wpAny_pure ?_)
  refine wpAny_pure (wpAny_pure ?_)
  show wpAny _ _ (newTuple [x, y] >>= _) _ _ _
  refine wpAny_bind (wpAny_newTuple ?_)
  have hsz : h₃.objs.size = s.heap.objs.size := by rw [hs₃.1, hs₂.1, hs₁.1]
  have hz₃ : ZHeld h₃ z TI TO T true := hs₃.extBut _ _ D.i2z.symm (hs₂.extBut _ _ D.i1z.symm hz₁)
  have hk : ∀ c o, c ≠ z → c ≠ i1 → c ≠ i2 → s.heap.get? c = some o → h₃.get? c = some o := fun c o c1 c2 c3 e => hs₃.extBut _ _ c3 (hs₂.extBut _ _ c2 (hs₁.extBut _ _ c1 e))
  have h1₃ : h₃.IsTupleIter i1 l1 (k1 + 1) := h1₂.extBut hs₃.extBut D.i12
  refine wpAny_pure ⟨_, rfl, ?_⟩
  show Q (.ref h₃.objs.size) _
  have hp : IsPair (h₃.push { cls := .type "tuple", data := .seq #[x, y] }) h₃.objs.size x y := Heap.get?_push_size _ rfl
  have hz4 : (h₃.push { cls := .type "tuple", data := .seq #[x, y] }).objs.size = h₃.objs.size + 1 := Heap.size_push ..
  rw [hsz] at hp hz4 ⊢
  exact hQ _ (Heap.get?_push_of_some _ hz₃) (h1₃.at fun o e => Heap.get?_push_of_some _ e) (h2₃.at fun o e => Heap.get?_push_of_some _ e) hp hz4 fun c o c1 c2 c3 e => Heap.get?_push_of_some _ (hk c o c1 c2 c3 e)
theorem zipH_end {z TI TO T i1 i2 l1 l2 : Addr} {f : Bool} {oT : Obj} {k1 k2 : Nat} {xs ys : Array Value} {Q : Fin → Shared → Prop} (hh : A.handled = none) (D : ZipApart z TI TO i1 i2 l1 l2)
    (hz : ZHeld s.heap z TI TO T f) (hT : s.heap.get? T = some oT) (hTI : IsPair s.heap TI (.ref i1) (.ref i2))
    (h1 : s.heap.IsTupleIter i1 l1 k1) (h2 : s.heap.IsTupleIter i2 l2 k2) (hl1 : s.heap.IsTuple l1 xs) (hl2 : s.heap.IsTuple l2 ys) (hend : xs[k1]? = none ∨ ys[k2]? = none)
    (hE : ∀ h' e, (∀ c o, c ≠ z → c ≠ i1 → c ≠ i2 → s.heap.get? c = some o → h'.get? c = some o) → (∃ o, h'.get? e = some o ∧ o.cls = .type "StopIteration") → E (.ref e) { s with heap := h' }) :
    wpAny (model prog w) A (Builtin.«zip.__next__» ⟨[.ref z], []⟩) Q E s := by
  show wpAny _ _ (field (.ref z) 2 >>= _) _ _ _
  refine wpAny_bind (wpAny_field hz rfl (x := .bool false) rfl ?_)
  show wpAny _ _ (field (.ref z) 3 >>= _) _ _ _
  refine wpAny_bind (wpAny_field hz rfl (x := .ref TI) rfl ?_)
  refine wpAny_bind (wpAny_seqItems hTI rfl ?_)
  show wpAny _ _ (Builtin.SmallTypes.ownedTupleIsFree (.ref z) >>= _) _ _ _
  refine wpAny_bind (held_free hz hT fun h₁ hz₁ hs₁ => ?_)
  simp only [Bool.false_eq_true, if_false]
  refine wpAny_bind ?_
  rw [← Array.forIn_toList]
  simp only [List.forIn_cons, List.forIn_nil]
  refine wpAny_bind (wpAny_bind (wpAny_holding ?_))
  show wpAny _ _ (Builtin.SmallTypes.nextOf (.ref i1) >>= _) _ _ _
  cases hx : xs[k1]? with
  | none =>
    refine wpAny_bind (RZ.nextOf_tuple_end (s := { s with heap := h₁ }) hh (h1.extBut hs₁.extBut D.i1z) (hl1.extBut hs₁.extBut D.l1z) hx fun h₂ e hs₂ he => ?_)
    exact hE h₂ e (fun c o c1 c2 _ x => hs₂ _ _ c2 (hs₁.extBut _ _ c1 x)) he
  | some x =>
    have hy : ys[k2]? = none := by rcases hend with h | h; rw [hx] at h; cases h; exact h
    refine wpAny_bind (RZ.nextOf_tuple_item (s := { s with heap := h₁ }) (h1.extBut hs₁.extBut D.i1z) (hl1.extBut hs₁.extBut D.l1z) hx fun h₂ h1₂ hs₂ => wpAny_pure ?_)
    refine wpAny_pure ?_
    refine wpAny_bind (wpAny_bind (wpAny_holding ?_))
    show wpAny _ _ (Builtin.SmallTypes.nextOf (.ref i2) >>= _) _ _ _
    refine wpAny_bind (RZ.nextOf_tuple_end (s := { s with heap := h₂ }) hh ((h2.extBut hs₁.extBut D.i2z).extBut hs₂.extBut D.i12.symm) ((hl2.extBut hs₁.extBut D.l2z).extBut hs₂.extBut D.l2i1) hy fun h₃ e hs₃ he => ?_)
    exact hE h₃ e (fun c o c1 c2 c3 x => hs₃ _ _ c3 (hs₂.extBut _ _ c2 (hs₁.extBut _ _ c1 x))) he

/-- a zip between two draws, its last pair kept by somebody -/
structure ZSt (h : Heap) (z TI TO i1 i2 l1 l2 : Addr) (xs ys : Array Value) (i : Nat) : Prop where
  zp : (IsZip h z TI TO .none ∧ ∃ x y, IsPair h TO x y) ∨ ∃ T f oT, ZHeld h z TI TO T f ∧ h.get? T = some oT ∧ T ≠ z ∧ T ≠ TO ∧ T ≠ i1 ∧ T ≠ i2
  ti : IsPair h TI (.ref i1) (.ref i2)
  a1 : h.IsTupleIter i1 l1 i
  a2 : h.IsTupleIter i2 l2 i
  t1 : h.IsTuple l1 xs
  t2 : h.IsTuple l2 ys
theorem held_of_zip {h : Heap} {z TI TO T : Addr} (e : IsZip h z TI TO (rawInt T)) : ZHeld h z TI TO T false := e
theorem zst_next {z TI TO i1 i2 l1 l2 : Addr} {i : Nat} {xs ys : Array Value} {x y : Value} {Q : Option Value → Shared → Prop} (D : ZipApart z TI TO i1 i2 l1 l2) (S : ZSt s.heap z TI TO i1 i2 l1 l2 xs ys i)
    (hlt : ∀ c ∈ [z, TO, i1, i2], c < s.heap.objs.size) (hx : xs[i]? = some x) (hy : ys[i]? = some y)
    (hQ : ∀ h', ZSt h' z TI TO i1 i2 l1 l2 xs ys (i + 1) → IsPair h' s.heap.objs.size x y → h'.objs.size = s.heap.objs.size + 1 →
      (∀ c o, c ≠ z → c ≠ TO → c ≠ i1 → c ≠ i2 → s.heap.get? c = some o → h'.get? c = some o) → Q (some (.ref s.heap.objs.size)) { s with heap := h' }) :
    wpAny (model prog w) A (pyNext (.ref z)) Q E s := by
  have ne : ∀ c ∈ [z, TO, i1, i2], s.heap.objs.size ≠ c := fun c hc => Nat.ne_of_gt (hlt c hc)
  obtain ⟨zp, ti, a1, a2, t1, t2⟩ := S
  rcases zp with ⟨hz, u, v, hTO⟩ | ⟨T, f, oT, hz, hT, n1, n2, n3, n4⟩
  · refine RZ.pyNext_zipT_item D hz ti hTO a1 a2 t1 t2 hx hy fun h' q1 q2 q3 q4 q5 q6 q7 => ?_
    exact hQ h' ⟨.inr ⟨s.heap.objs.size, false, _, held_of_zip q1, q5, ne z (by simp), ne TO (by simp), ne i1 (by simp), ne i2 (by simp)⟩, q7 _ _ D.TIz D.TITO D.TIi1 D.TIi2 ti, q3, q4,
      t1.at fun o e => q7 _ o D.l1z D.l1TO D.l1i1 D.l1i2 e, t2.at fun o e => q7 _ o D.l2z D.l2TO D.l2i1 D.l2i2 e⟩ q5 q6 q7
  · have hTy : s.TypeIs (.ref z) "zip" := ⟨_, hz, rfl⟩
    unfold pyNext
    refine wpAny_bind (wpAny_attempt (wpAny_callSpecial?_slot (name := Str.ofString "__next__") hTy F.slot_zip_next
      (wpAny_call_entry F.slot_zip_next hTy F.entry_zip_next
        (zipH_item D hz hT ti a1 a2 t1 t2 hx hy fun h' q1 q3 q4 q5 q6 q7 => wpAny_pure ?_) (F.args_zip_next_1 _))))
    exact hQ h' ⟨.inr ⟨T, true, _, q1, q7 T _ n1 n3 n4 hT, n1, n2, n3, n4⟩, q7 _ _ D.TIz D.TIi1 D.TIi2 ti, q3, q4,
      t1.at fun o e => q7 _ o D.l1z D.l1i1 D.l1i2 e, t2.at fun o e => q7 _ o D.l2z D.l2i1 D.l2i2 e⟩ q5 q6 fun c o c1 _ c3 c4 e => q7 c o c1 c3 c4 e
theorem zst_end {z TI TO i1 i2 l1 l2 : Addr} {i : Nat} {xs ys : Array Value} {Q : Option Value → Shared → Prop} (hh : A.handled = none) (D : ZipApart z TI TO i1 i2 l1 l2) (S : ZSt s.heap z TI TO i1 i2 l1 l2 xs ys i) (hend : xs[i]? = none ∨ ys[i]? = none)
    (hQ : ∀ h', (∀ c o, c ≠ z → c ≠ TO → c ≠ i1 → c ≠ i2 → s.heap.get? c = some o → h'.get? c = some o) → Q none { s with heap := h' }) : wpAny (model prog w) A (pyNext (.ref z)) Q E s := by
  obtain ⟨zp, ti, a1, a2, t1, t2⟩ := S
  rcases zp with ⟨hz, u, v, hTO⟩ | ⟨T, f, oT, hz, hT, n1, n2, n3, n4⟩
  · exact RZ.pyNext_zipT_end hh D hz ti hTO a1 a2 t1 t2 hend hQ
  · have hTy : s.TypeIs (.ref z) "zip" := ⟨_, hz, rfl⟩
    unfold pyNext
    refine wpAny_bind (wpAny_attempt (wpAny_callSpecial?_slot (name := Str.ofString "__next__") hTy F.slot_zip_next
      (wpAny_call_entry F.slot_zip_next hTy F.entry_zip_next (zipH_end hh D hz hT ti a1 a2 t1 t2 hend fun h' e hk he => ?_) (F.args_zip_next_1 _))))
    obtain ⟨o, ho, hc⟩ := he
    refine wpAny_bind (wpAny_isInstance (T := "StopIteration") (b := true) ⟨o, ho, hc⟩ isSubtype_stop ?_)
    exact wpAny_pure (hQ _ fun c o c1 _ c3 c4 e => hk c o c1 c3 c4 e)
end
theorem tup_ne : Value.type "tuple" ≠ Value.type "list" := by decide
theorem zip_ne : Value.type "zip" ≠ Value.type "list" := by decide
theorem ZSt.keep {h h' : Heap} {z TI TO i1 i2 l1 l2 : Addr} {xs ys : Array Value} {i : Nat} (S : ZSt h z TI TO i1 i2 l1 l2 xs ys i) (c : Addr) (hc : ∃ o, h.get? c = some o ∧ o.cls = .type "list") (k : ∀ b o, b ≠ c → h.get? b = some o → h'.get? b = some o) (kc : ∀ o, h.get? c = some o → ∃ o', h'.get? c = some o') : ZSt h' z TI TO i1 i2 l1 l2 xs ys i := by
  obtain ⟨oc, hoc, hcl⟩ := hc
  obtain ⟨zp, ti, a1, a2, t1, t2⟩ := S
  have nt : ∀ {b : Addr} {o : Obj}, h.get? b = some o → o.cls ≠ .type "list" → b ≠ c := fun {b o} e n q => by
    subst q
    rw [hoc] at e
    cases e
    exact n hcl
  refine ⟨?_, k _ _ (nt ti tup_ne) ti, ?_, ?_, ?_, ?_⟩
  · rcases zp with ⟨hz, u, v, hTO⟩ | ⟨T, f, oT, hz, hT, n1, n2, n3, n4⟩
    · exact .inl ⟨k _ _ (nt hz zip_ne) hz, u, v, k _ _ (nt hTO tup_ne) hTO⟩
    · by_cases hTc : T = c
      · subst hTc
        obtain ⟨o', ho'⟩ := kc _ hT
        exact .inr ⟨T, f, o', k _ _ (nt hz zip_ne) hz, ho', n1, n2, n3, n4⟩
      · exact .inr ⟨T, f, oT, k _ _ (nt hz zip_ne) hz, k _ _ hTc hT, n1, n2, n3, n4⟩
  · obtain ⟨o, e, c1, d1⟩ := a1
    exact ⟨o, k _ _ (nt e (by rw [c1]; decide)) e, c1, d1⟩
  · obtain ⟨o, e, c1, d1⟩ := a2
    exact ⟨o, k _ _ (nt e (by rw [c1]; decide)) e, c1, d1⟩
  · obtain ⟨o, e, c1, d1⟩ := t1
    exact ⟨o, k _ _ (nt e (by rw [c1]; decide)) e, c1, d1⟩
  · obtain ⟨o, e, c1, d1⟩ := t2
    exact ⟨o, k _ _ (nt e (by rw [c1]; decide)) e, c1, d1⟩
theorem ZSt.mono {h h' : Heap} {z TI TO i1 i2 l1 l2 : Addr} {xs ys : Array Value} {i : Nat} (S : ZSt h z TI TO i1 i2 l1 l2 xs ys i) (k : ∀ b o, h.get? b = some o → h'.get? b = some o) : ZSt h' z TI TO i1 i2 l1 l2 xs ys i := by
  obtain ⟨zp, ti, a1, a2, t1, t2⟩ := S
  refine ⟨?_, k _ _ ti, a1.at fun o e => k _ _ e, a2.at fun o e => k _ _ e, t1.at fun o e => k _ _ e, t2.at fun o e => k _ _ e⟩
  rcases zp with ⟨hz, u, v, hTO⟩ | ⟨T, f, oT, hz, hT, n1, n2, n3, n4⟩
  · exact .inl ⟨k _ _ hz, u, v, k _ _ hTO⟩
  · exact .inr ⟨T, f, oT, k _ _ hz, k _ _ hT, n1, n2, n3, n4⟩

/-- pairs newly made, one behind another -/
inductive NewT (H : Hp) : List (V × V) → List Addr → Hp → Prop
  | nil : NewT H [] [] H
  | snoc {ps : List (V × V)} {ts : List Addr} {H1 : Hp} {T : Addr} {x y : V} : NewT H ps ts H1 → H1 T = none → NewT H (ps ++ [(x, y)]) (ts ++ [T]) (upd H1 T (.tup [x, y]))
theorem NewT.len {H H' : Hp} {ps : List (V × V)} {ts : List Addr} (n : NewT H ps ts H') : ps.length = ts.length := by
  induction n with
  | nil => rfl
  | snoc n h ih => rw [List.length_append, List.length_append, ih] <;> rfl
theorem upd_swap {H : Hp} {a b : Addr} {o u : HO} (h : a ≠ b) : upd (upd H a o) b u = upd (upd H b u) a o := by
  funext c
  by_cases h1 : c = a
  · subst h1
    rw [upd_ne h, upd_same, upd_same]
  · by_cases h2 : c = b
    · subst h2
      rw [upd_same, upd_ne h1, upd_same]
    · rw [upd_ne h2, upd_ne h1, upd_ne h1, upd_ne h2]
theorem upd_upd {H : Hp} {a : Addr} {o u : HO} : upd (upd H a o) a u = upd H a u := by
  funext c
  by_cases h1 : c = a
  · subst h1
    rw [upd_same, upd_same]
  · rw [upd_ne h1, upd_ne h1, upd_ne h1]
section
variable {X : Cx} {pins : List (Addr × Obj)} {σ : L2.St} {A : Around}
/-- the loop behind list(zip(..)): S is the new list -/
theorem zip_loop {z TI TO i1 i2 l1 l2 S : Addr} {us ws : List Value} {xs ys : List V} (hh : A.in1.handled = none) (D : ZipApart z TI TO i1 i2 l1 l2) (rx : Vals xs us) (ry : Vals ys ws) (res : Value) (Hk : Hp) (hS : Hk S = none) (hz : xs.length ≤ sizeLine) {R : Result → Shared → Prop}
    (hR : ∀ ts H' s', NewT Hk (xs.zip ys) ts H' → H' S = none → Inv X pins σ (upd H' S (.lst (ts.map V.ref))) s' → R (.ok (.ret res)) s') :
    ∀ (k i : Nat) (s : Shared) (ts : List Addr) (H : Hp), min xs.length ys.length - i = k → i ≤ min xs.length ys.length → ZSt s.heap z TI TO i1 i2 l1 l2 us.toArray ws.toArray i →
      NewT Hk ((xs.zip ys).take i) ts H → H S = none → Inv X pins σ (upd H S (.lst (ts.map V.ref))) s → (∀ b ∈ [z, TI, TO, i1, i2], FpOk X pins (upd H S (.lst (ts.map V.ref))) b) → S ∉ [z, TI, TO, i1, i2] → (∀ c ∈ [z, TI, TO, i1, i2], c < s.heap.objs.size) →
      codeAny (model X.prog X.w) A (.builtin "list.extend.loop" ⟨[.ref S, .ref z, res], []⟩) R s := by
  have lx := rx.length
  have ly := ry.length
  intro k
  induction k with
  | zero =>
    intro i s ts H hk hi st nt hHS I fp hSn hlt
    have hin : i = min xs.length ys.length := by omega
    refine codeAny_builtin F.entry_extend_loop ?_
    rw [Around.under_plainId F.plain_extend_loop _]
    show wpAny _ A.in1 (pyNext (.ref z) >>= _) _ _ s
    refine wpAny_bind (zst_end hh D st ?_ fun h' hk' => ?_)
    · by_cases h1 : us.length ≤ i
      · exact .inl (by simp; omega)
      · exact .inr (by simp; omega)
    · refine wpAny_pure ?_
      have e : (xs.zip ys).take i = xs.zip ys := List.take_of_length_le (by rw [List.length_zip]; omega)
      rw [e] at nt
      exact hR ts H _ nt hHS (I.turnedL (t' := s.toks) (ch := [z, TI, TO, i1, i2]) (fun c o hb q => hk' c o (fun q' => hb (by simp [q'])) (fun q' => hb (by simp [q'])) (fun q' => hb (by simp [q'])) (fun q' => hb (by simp [q'])) q) fp)
  | succ k ih =>
    intro i s ts H hk hi st nt hHS I fp hSn hlt
    have h1 : i < xs.length := by omega
    have h2 : i < ys.length := by omega
    obtain ⟨u, hu, ru⟩ := rx.get (List.getElem?_eq_getElem h1)
    obtain ⟨u2, hu2, ru2⟩ := ry.get (List.getElem?_eq_getElem h2)
    refine codeAny_builtin F.entry_extend_loop ?_
    rw [Around.under_plainId F.plain_extend_loop _]
    show wpAny _ A.in1 (pyNext (.ref z) >>= _) _ _ s
    refine wpAny_bind (zst_next D st (fun c hc => hlt c (by
      have e' : c = z ∨ c = TO ∨ c = i1 ∨ c = i2 := by simpa using hc
      rcases e' with q | q | q | q <;> simp [q])) (x := u) (y := u2) (by simpa using hu) (by simpa using hu2) fun h' st' hT hsz hk' => ?_)
    have hTn := I.hok.fresh (Nat.le_refl s.heap.objs.size)
    have hTS : s.heap.objs.size ≠ S := fun e => by
      rw [e, upd_same] at hTn
      cases hTn
    have hTH : H s.heap.objs.size = none := by
      rw [upd_ne hTS] at hTn
      exact hTn
    have new : ObjOk X.prog X.w (upd (upd H S (.lst (ts.map V.ref))) s.heap.objs.size (.tup [xs[i], ys[i]])) h' s.heap.objs.size (.tup [xs[i], ys[i]]) :=
      ⟨by show 2 ≤ sizeLine; decide, [u, u2], .cons ru (.cons ru2 .nil), ⟨_, hT, rfl, _, rfl⟩⟩
    have I1 : Inv X pins σ (upd (upd H S (.lst (ts.map V.ref))) s.heap.objs.size (.tup [xs[i], ys[i]])) { s with heap := h' } :=
      I.turnedNew (t' := s.toks) (ch := [z, TI, TO, i1, i2]) (fun c o hb q => hk' c o (fun q' => hb (by simp [q'])) (fun q' => hb (by simp [q'])) (fun q' => hb (by simp [q'])) (fun q' => hb (by simp [q'])) q) fp (Nat.le_refl _) new
    rw [upd_swap hTS.symm] at I1
    obtain ⟨zl, its, n, rl, hl, eS⟩ := I1.lstM upd_same
    have hlen : ts.length = i := by
      have q := nt.len
      rw [List.length_take, List.length_zip] at q
      omega
    have hil : its.length = i := by rw [← hl, List.length_map, hlen]
    have I2 := I1.lset (t' := s.toks) (f := (·.push (Value.ref s.heap.objs.size))) (its' := its ++ [Value.ref s.heap.objs.size]) (ys := (ts ++ [s.heap.objs.size]).map V.ref) upd_same eS (by simp) (by rw [List.map_append]; exact rl.append (.cons rfl .nil)) (by rw [List.length_map, List.length_append, hlen]; show i + 1 ≤ sizeLine; omega)
    rw [upd_upd] at I2
    show wpAny _ A.in1 (updateSeq S (·.push (Value.ref s.heap.objs.size)) >>= _) _ _ _
    refine wpAny_bind ?_
    have hle : its.toArray.size ≤ sizeLine := by rw [List.size_toArray]; omega
    refine wpAny_updateSeq eS rfl (wpAny_pure ⟨plainId_quiet F.plain_extend_loop _, ih (i + 1) _ (ts ++ [s.heap.objs.size]) (upd H s.heap.objs.size (.tup [xs[i], ys[i]])) (by omega) (by omega) (st'.keep S ⟨_, eS, rfl⟩ (fun b o hb e => (Heap.get?_update_other _ _ (Ne.symm hb)).trans e) fun o e => ⟨_, Heap.get?_update_self _ eS rfl⟩) ?_ ?_ I2 (fun b hb => ?_) hSn (fun c hc => ?_)⟩)
      (by first | exact hle | (show its.toArray.size < sizeLine; rw [List.size_toArray]; omega)) (by show (its.toArray.push _).size ≤ sizeLine + 1; rw [Array.size_push, List.size_toArray]; omega)
    · have e : (xs.zip ys).take (i + 1) = (xs.zip ys).take i ++ [(xs[i], ys[i])] := by
        have hi' : i < (xs.zip ys).length := by rw [List.length_zip]; omega
        rw [List.take_succ_eq_append_getElem hi', List.getElem_zip]
      rw [e]
      exact .snoc nt hTH
    · rw [upd_ne hTS.symm]
      exact hHS
    · obtain ⟨f0, f1⟩ := fp b hb
      have hbS : b ≠ S := fun e => hSn (by rw [← e]; exact hb)
      refine ⟨?_, f1⟩
      rw [upd_ne hbS] at f0 ⊢
      rw [upd_ne (Nat.ne_of_lt (hlt b hb))]
      exact f0
    · have q := hlt c hc
      have e := Heap.size_update h' S (Obj.mapSeq (·.push (Value.ref s.heap.objs.size)))
      show c < (h'.update S (Obj.mapSeq (·.push (Value.ref s.heap.objs.size)))).objs.size
      rw [e, hsz]
      exact Nat.lt_succ_of_lt q
theorem nolen_zip : typeLookup (.type "zip") "__len__" = pure none := by rw [typeLookup_type, builtinLookup_eq_fast]; kernel_rfl
theorem nohint_zip : typeLookup (.type "zip") "__length_hint__" = pure none := by rw [typeLookup_type, builtinLookup_eq_fast]; kernel_rfl
/-- list(z), z a new zip of two tuples -/
theorem list_of_zip {z TI TO i1 i2 l1 l2 : Addr} {us ws : List Value} {xs ys : List V} {s : Shared} {Hk : Hp} {Q : VK} (hh : X.A.handled = none) (D : ZipApart z TI TO i1 i2 l1 l2) (rx : Vals xs us) (ry : Vals ys ws) (hz : xs.length ≤ sizeLine)
    (st : ZSt s.heap z TI TO i1 i2 l1 l2 us.toArray ws.toArray 0) (hzip : IsZip s.heap z TI TO .none) (I : Inv X pins σ Hk s) (fp : ∀ b ∈ [z, TI, TO, i1, i2], FpOk X pins Hk b) (hlt : ∀ c ∈ [z, TI, TO, i1, i2], c < s.heap.objs.size)
    (hQ : ∀ ts H' l, NewT Hk (xs.zip ys) ts H' → H' l = none → Q (.ref l) (upd H' l (.lst (ts.map V.ref)))) : wpAny (model X.prog X.w) X.A (call (.type "list") [.ref z]) (EP X pins σ Q) X.xe s := by
  have hSn : s.heap.objs.size ∉ [z, TI, TO, i1, i2] := fun hm => Nat.lt_irrefl _ (hlt _ hm)
  have hSz : s.heap.objs.size ≠ z := fun e => hSn (by simp [e])
  have hHk : Hk s.heap.objs.size = none := I.hok.fresh (Nat.le_refl _)
  refine callType_codes (Q₁ := fun obj s₁ => obj = .ref s.heap.objs.size ∧ s₁ = { s with heap := s.heap.push { cls := .type "list", data := .seq #[] } }) F.called_list (F.typeCall_list_1 _) F.entry_list_init
    (code_list_new _ ⟨rfl, rfl⟩) fun obj s₁ h₁ => ?_
  obtain ⟨rfl, rfl⟩ := h₁
  have hS : (s.heap.push { cls := .type "list", data := .seq #[] }).get? s.heap.objs.size = some { cls := .type "list", data := .seq #[] } := Heap.get?_push_size _ rfl
  have I1 : Inv X pins σ (upd Hk s.heap.objs.size (.lst [])) { s with heap := s.heap.push { cls := .type "list", data := .seq #[] } } := I.laid (t' := s.toks) (o := .lst []) (fun b ob q => Heap.get?_push_of_some _ q) (Nat.le_refl _) ⟨Nat.zero_le _, [], 0, .nil, hS⟩
  refine ⟨⟨_, hS, rfl⟩, F.args_list_init_2 _ _, ?_⟩
  show wpAny _ X.A.in1.in1 (do let old ← Builtin.List.listItems (.ref s.heap.objs.size); Builtin.List.listUpdate (.ref s.heap.objs.size) (fun _ => #[]); letGo old.toList.reverse; Builtin.List.listExtendWith (.ref s.heap.objs.size) (.ref z) .none) _ _ _
  refine wpAny_bind ?_
  unfold Builtin.List.listItems
  refine wpAny_bind (wpAny_seqItems hS rfl (wpAny_pure ?_))
  show wpAny _ X.A.in1.in1 (updateSeq s.heap.objs.size (fun _ => #[]) >>= fun _ => letGo (#[] : Array Value).toList.reverse >>= fun _ => Builtin.List.listExtendWith (.ref s.heap.objs.size) (.ref z) .none) _ _ _
  refine wpAny_bind (wpAny_updateSeq hS rfl ?_)
  have hS₂ := Heap.get?_update_self (Obj.mapSeq (fun _ => (#[] : Array Value))) hS rfl
  refine wpAny_bind (wpAny_letGo ?_)
  unfold Builtin.List.listExtendWith
  have hzp : ((s.heap.push { cls := .type "list", data := .seq #[] }).update s.heap.objs.size (Obj.mapSeq (fun _ => (#[] : Array Value)))).get? z = some _ := (Heap.get?_update_other _ _ hSz).trans (Heap.get?_push_of_some _ hzip)
  have hT : Shared.TypeIs { s with heap := (s.heap.push { cls := .type "list", data := .seq #[] }).update s.heap.objs.size (Obj.mapSeq (fun _ => (#[] : Array Value))) } (.ref z) "zip" := ⟨_, hzp, rfl⟩
  refine wpAny_bind (wpAny_typeOf hT ?_)
  have h1 : Builtin.List.listSameRef (.ref s.heap.objs.size) (.ref z) = false := by simp [Builtin.List.listSameRef, hSz]
  have h2 : (Value.type "zip" == Value.type "list") = false := by decide
  have h3 : (Value.type "zip" == Value.type "tuple") = false := by decide
  simp only [h1, h2, h3, Bool.or_false, Bool.false_eq_true, if_false]
  refine wpAny_bind (wpAny_pyIter_zip hzp ?_)
  refine wpAny_bind (wpAny_holding ?_)
  unfold Builtin.List.listLengthHint
  refine wpAny_bind (wpAny_specialOf hT nolen_zip ?_)
  show wpAny _ X.A.in1.in1 (specialOf (Value.ref z) (Str.ofString "__length_hint__") >>= _) _ _ _
  refine wpAny_bind (wpAny_specialOf hT nohint_zip ?_)
  refine wpAny_pure ?_
  show wpAny _ X.A.in1.in1 (rule "list.extend.makes-room" >>= fun _ => Builtin.List.listTouch (.ref s.heap.objs.size) >>= fun _ =>
    again (.builtin "list.extend.loop" ⟨[.ref s.heap.objs.size, .ref z, .none], []⟩)) _ _ _
  refine wpAny_bind (wpAny_rule ?_)
  refine wpAny_bind ?_
  show wpAny _ X.A.in1.in1 (updateSeq s.heap.objs.size (·.push .none) >>= fun _ => updateSeq s.heap.objs.size (·.pop)) _ _ _
  refine wpAny_bind (wpAny_updateSeq hS₂ rfl ?_)
  have hS₃ := Heap.get?_update_self (Obj.mapSeq (·.push Value.none)) hS₂ rfl
  refine wpAny_updateSeq (hz := by seq_fits) hS₃ rfl ?_
  have hS₄ := Heap.get?_update_self (Obj.mapSeq (·.pop)) hS₃ rfl
  have I2 : Inv X pins σ (upd (upd Hk s.heap.objs.size (.lst [])) s.heap.objs.size (.lst [])) _ := I1.write (t' := s.toks) (x := s.heap.objs.size) (e := s.heap.objs.size) (by rw [upd_same]; exact trivial) (.inl rfl)
    (fun b u hb hu => (Heap.get?_update_other _ _ (Ne.symm hb)).trans ((Heap.get?_update_other _ _ (Ne.symm hb)).trans ((Heap.get?_update_other _ _ (Ne.symm hb)).trans hu))) ⟨_, hS₄⟩ ⟨Nat.zero_le _, [], _, .nil, hS₄⟩
  rw [upd_upd] at I2
  refine wpAny_pure ⟨plainId_quiet F.plain_extend_loop _, zip_loop (A := X.A.in1) hh D rx ry .none Hk hHk hz (fun ts H' s' nt hn I' => ⟨rfl, .ref s.heap.objs.size, _, I', rfl, hQ ts H' _ nt hn⟩) _ 0 _ [] Hk rfl (Nat.zero_le _) ?_ (by simpa using NewT.nil) hHk I2 (fun b hb => ?_) hSn (fun c hc => ?_)⟩
  · refine (st.mono (h' := s.heap.push { cls := .type "list", data := .seq #[] }) fun b o e => Heap.get?_push_of_some _ e).keep s.heap.objs.size ⟨_, hS, rfl⟩ (fun b o hb e => ?_) fun o e => ⟨_, hS₄⟩
    exact (Heap.get?_update_other _ _ (Ne.symm hb)).trans ((Heap.get?_update_other _ _ (Ne.symm hb)).trans ((Heap.get?_update_other _ _ (Ne.symm hb)).trans e))
  · obtain ⟨f0, f1⟩ := fp b hb
    refine ⟨?_, f1⟩
    rw [upd_ne (fun e => hSn (by rw [← e]; exact hb))]
    exact f0
  · have e4 := (Heap.size_update _ s.heap.objs.size (Obj.mapSeq (·.pop))).trans ((Heap.size_update _ s.heap.objs.size (Obj.mapSeq (·.push Value.none))).trans ((Heap.size_update (s.heap.push { cls := .type "list", data := .seq #[] }) s.heap.objs.size (Obj.mapSeq (fun _ => (#[] : Array Value)))).trans (Heap.size_push _ _)))
    exact Nat.lt_of_lt_of_eq (Nat.lt_succ_of_lt (hlt c hc)) e4.symm

def tListZip (K : PySem.W.Frag) (ta : TA) : TE := fun σ H Q => ta σ H fun vs H1 => ∃ a b xs ys, vs = [.ref a, .ref b] ∧ SqT K H1 a xs ∧ SqT K H1 b ys ∧ ∀ ts H' l, NewT H1 (xs.zip ys) ts H' → H' l = none → Q (.ref l) (upd H' l (.lst (ts.map V.ref)))
theorem pe_listZip {e e2 : Expr} {ta : TA} {p p2 pos pos2 : Pos} (hc : X.calm = true) (hg : Gl X "list") (hm : X.mg "list" = none) (hg2 : Gl X "zip") (hm2 : X.mg "zip" = none) (ha : PA X [e, e2] ta)
    (hs2 : starEach [.Call (.Name "zip" p2) [e, e2] [] pos2] X.env = (false, eval (.Call (.Name "zip" p2) [e, e2] [] pos2) X.env) :: starEach [] X.env := by rfl)
    (hs : starEach [e, e2] X.env = (false, eval e X.env) :: starEach [e2] X.env := by rfl) (hpl : (backTo pos2 (starEach [e2] X.env)).any (·.1) = false := by rfl) :
    PE X (.Call (.Name "list" p) [.Call (.Name "zip" p2) [e, e2] [] pos2] [] pos) (tListZip X.K ta) := by
  refine ⟨fun pins s σ H Q I h => ?_⟩
  refine Call_ (ld_blt I hg hm boot_list (PyProof.Rows.callWith_type1 (args_cons (Call_ (ld_blt I hg2 hm2 PyProof.Rows.boot_zip (PyProof.Rows.callWith_type1 (thn (ha.run pos2 pins s σ H _ I h) fun us s1 ⟨vs, H1, I1, r1, q1⟩ => ?_) hs hpl))) hs2) hs2 rfl))
  obtain ⟨a, b, xs, ys, ex, hqx, hqy, q⟩ := q1
  subst ex
  cases r1 with
  | cons r rr =>
    cases rr with
    | cons r' rr =>
      cases rr
      cases r
      cases r'
      obtain ⟨its, rv, p1, hz⟩ := I1.tuple hqx
      obtain ⟨its2, rv2, p2, _⟩ := I1.tuple hqy
      obtain ⟨o1, ho1, _⟩ := id p1
      obtain ⟨o2, ho2, _⟩ := id p2
      refine RZ.call_zipT (show s1.heap.IsTuple a its.toArray from p1) (show s1.heap.IsTuple b its2.toArray from p2) fun h' hz' hTI hTO h1 h2 hsz hk => args_nil ?_
      have D := PySem.W.ktu_apart s1.heap.objs.size a b (Heap.lt_size ho1) (Heap.lt_size ho2)
      have I2 : Inv X pins σ H1 { s1 with heap := h' } := I1.kept (t' := s1.toks) hk
      have five : ∀ c, c ∈ [s1.heap.objs.size + 4, s1.heap.objs.size + 2, s1.heap.objs.size + 3, s1.heap.objs.size, s1.heap.objs.size + 1] → s1.heap.objs.size ≤ c ∧ c < s1.heap.objs.size + 5 := fun c hcm => by
        have e' : c = s1.heap.objs.size + 4 ∨ c = s1.heap.objs.size + 2 ∨ c = s1.heap.objs.size + 3 ∨ c = s1.heap.objs.size ∨ c = s1.heap.objs.size + 1 := by simpa using hcm
        have hn : ∀ (n c : Nat), (c = n + 4 ∨ c = n + 2 ∨ c = n + 3 ∨ c = n ∨ c = n + 1) → n ≤ c ∧ c < n + 5 := by omega
        exact hn _ _ e'
      exact list_of_zip (s := { s1 with heap := h' }) (I1.ok.hd hc) D rv rv2 hz
        ⟨.inl ⟨hz', _, _, hTO⟩, hTI, h1, h2, (show s1.heap.IsTuple a its.toArray from p1).at fun o e => hk _ o e, (show s1.heap.IsTuple b its2.toArray from p2).at fun o e => hk _ o e⟩ hz' I2
        (fun c hcm => I1.fpOk (five c hcm).1 (I1.hok.fresh (five c hcm).1)) (fun c hcm => by
          show c < h'.objs.size
          rw [hsz]
          exact (five c hcm).2) q
end
end Wk
namespace Wk
open PySem L2 Evl
section
variable {K : PySem.W.Frag} {ρ : Rho} {M : Mm} {Φ : Dt → Mm → Prop} {ta : TA}
theorem RpAll.snoc_inv {H : Hp} {v : V} : ∀ {vs : List V} {ds : List Dt}, RpAll K H (vs ++ [v]) ds → ∃ es d, ds = es ++ [d] ∧ RpAll K H vs es ∧ Rp K H v d
  | [], _, .cons h .nil => ⟨[], _, rfl, .nil, h⟩
  | _ :: vs, _, .cons h r => by
    obtain ⟨es, d, rfl, h1, h2⟩ := RpAll.snoc_inv (vs := vs) r
    exact ⟨_ :: es, d, rfl, .cons h h1, h2⟩
abbrev pairD (xs ys : List Dt) : List Dt := List.zipWith (fun a b => Dt.tup [a, b]) xs ys
theorem newT_ok {B Hh H1 H' : Hp} {ps : List (V × V)} {ts : List Addr} (n : NewT H1 ps ts H') (k : Ok K B Hh H1 M) : ∀ {ds es : List Dt}, RpAll K Hh (ps.map (·.1)) ds → RpAll K Hh (ps.map (·.2)) es → ∃ Hh', Ok K B Hh' H' M ∧ Ex Hh Hh' ∧ RpAll K Hh' (ts.map V.ref) (pairD ds es) := by
  induction n with
  | nil =>
    intro ds es r1 r2
    cases r1
    cases r2
    exact ⟨Hh, k, Ex.refl _, .nil⟩
  | @snoc ps ts H1 T x y n h ih =>
    intro ds es r1 r2
    rw [List.map_append] at r1 r2
    obtain ⟨ds, d, rfl, r1, q1⟩ := r1.snoc_inv
    obtain ⟨es, e, rfl, r2, q2⟩ := r2.snoc_inv
    obtain ⟨Hh', k', e', r'⟩ := ih r1 r2
    have e2 := Ex.new (o := .tup [x, y]) (fresh_back k'.h h)
    refine ⟨_, k'.grow h, e'.trans e2, ?_⟩
    have hl : ds.length = es.length := by rw [← r1.length, ← r2.length, List.length_map, List.length_map]
    rw [List.map_append, show pairD (ds ++ [d]) (es ++ [e]) = pairD ds es ++ [.tup [d, e]] from by unfold pairD; rw [List.zipWith_append hl] <;> rfl]
    exact (r'.mono e2).append (.one (.tup (st_of upd_same) ((RpAll.cons q1 (.one q2)).mono (e'.trans e2))))
theorem ex_listZip (h : AX K ta ρ M (fun ds M1 => ∃ xs ys, ds = [.tup xs, .tup ys] ∧ xs.length = ys.length ∧ Φ (.lst (pairD xs ys)) M1)) : EX K (tListZip K ta) ρ M Φ := fun B H H1 σ o s Q q =>
  h B H H1 σ o s _ fun vs ds M' H' H2 z k e r => by
    obtain ⟨xs, ys, rfl, hl, z⟩ := z
    cases r with
    | cons ra rr =>
      cases rr with
      | cons rb rr =>
        cases rr
        obtain ⟨a, us, rfl, h1, r1⟩ := ra.tup_inv
        obtain ⟨b, ws, rfl, h2, r2⟩ := rb.tup_inv
        refine ⟨a, b, us, ws, rfl, ex_t k.h h1, ex_t k.h h2, fun ts Hn l n hn => ?_⟩
        have hle : us.length = ws.length := by rw [r1.length, r2.length, hl]
        obtain ⟨Hh, k2, e2, r3⟩ := newT_ok n k (by rw [List.map_fst_zip (by omega)]; exact r1) (by rw [List.map_snd_zip (by omega)]; exact r2)
        have e3 := Ex.new (o := .lst (ts.map V.ref)) (fresh_back k2.h hn)
        exact q _ _ M' _ _ z (k2.grow hn) (e.trans (e2.trans e3)) (.lst upd_same (r3.mono e3))
end
end Wk
/-! ## WkI -/
/-! own classes: star calls, static methods, == and len by own defs, a reversed copy. -/
namespace Wk
open PySem PySem.Spec PyProof.Rows L2

/-! ### C(*e) -/
def tMakeS (K : PySem.W.Frag) (C : Addr) (sp : Sp) (E : XK) (te : TE) : TE := fun σ H Q => te σ H fun y H1 => ∃ a xs, y = V.ref a ∧ (SqT K H1 a xs ∨ SqL K H1 a xs) ∧ ∀ x dx, H1 x = Option.none → H1 dx = Option.none → dx ≠ x →
  sp (V.ref x :: xs) (upd (upd H1 dx (.own x)) x (.ins C dx [])) (fun v H2 => v = .non ∧ Q (.ref x) H2) E
section
variable {X : Cx} {CX : CXT} {k : Nat} {f C : Addr} {sp : Sp} {E : XK} {x : Str} {e fe : Expr} {te tf : TE} {p pos sp_ : Pos}
theorem pe_makeS (M : Mk X.K C f) (F : FnR X.prog X.w X.K X.mg X.base CX k f sp) (hr : Room (k + 1) X.A) (hg : Gl X x) (hm : X.mg x = some (.ref C)) (hx : Passes CX X E) (he : PE X e te) (hd : (x == ("__debug__" : Str)) = false := by decide)
    (hst : starEach [.Starred e sp_] X.env = [(true, eval e X.env)] := by rfl) : PE X (.Call (.Name x p) [.Starred e sp_] [] pos) (tMakeS X.K C sp E te) := by
  refine ⟨fun pins s σ H Q I h => ?_⟩
  refine wpAny_Call_Name_kw (ld_glob I hg hm ?_ hd)
  refine PySem.W.callWith_S (h₀ := X.base) I.ok.mod.kin M.kp (thn (he.run pins s σ H _ I h) fun v s1 ⟨y, H1, I1, ry, a, xs, ey, hxs, q⟩ => ?_) hst
  subst ey
  obtain rfl : v = Value.ref a := ry
  exact StX.star_any I1 hxs fun us s2 I2 rv => ⟨I2.kIn, StX.run_makeR M F hr hx I2 rv q⟩
/-- c(*e), c a name that holds the class -/
def tMakeV (K : PySem.W.Frag) (C : Addr) (sp : Sp) (E : XK) (tf te : TE) : TE := fun σ H Q => tf σ H fun c H0 => c = .ref C ∧ tMakeS K C sp E te σ H0 Q
theorem pe_makeV (M : Mk X.K C f) (F : FnR X.prog X.w X.K X.mg X.base CX k f sp) (hr : Room (k + 1) X.A) (hx : Passes CX X E) (hf : PE X fe tf) (he : PE X e te)
    (hst : starEach [.Starred e sp_] X.env = [(true, eval e X.env)] := by rfl)
    (ht : eval (.Call fe [.Starred e sp_] [] pos) X.env = (do callWith pos (← eval fe X.env) [] (backTo pos (starEach [.Starred e sp_] X.env)) (backToKw pos (keywordEach [] X.env))) := by rfl) : PE X (.Call fe [.Starred e sp_] [] pos) (tMakeV X.K C sp E tf te) := by
  refine ⟨fun pins s σ H Q I h => ?_⟩
  refine Call_ (thn (hf.run pins s σ H _ I h) fun u s1 ⟨y, H1, I1, ry, ey, q⟩ => ?_) ht
  subst ey
  obtain rfl : u = Value.ref C := ry
  refine PySem.W.callWith_S (h₀ := X.base) I.ok.mod.kin M.kp (thn (he.run pins s1 σ H1 _ I1 q) fun v s1 ⟨y, H1, I1, ry, a, xs, ey, hxs, q⟩ => ?_) hst
  subst ey
  obtain rfl : v = Value.ref a := ry
  exact StX.star_any I1 hxs fun us s2 I2 rv => ⟨I2.kIn, StX.run_makeR M F hr hx I2 rv q⟩
end

/-! ### o.m(..) by a positional promise; C.m(..), m static -/
structure SMet (K : PySem.W.Frag) (C : Addr) (mc : Value) (m : Str) (p g : Addr) : Prop where
  at_ : PySem.W.findCls K (.ref C) mc m = some (.get (.builtin "staticmethod.__get__") (.ref p) .none (.ref C))
  rc : ∃ rest, PySem.W.recIn K p "staticmethod" = some (.ref g :: rest)
  kp : PySem.W.keepIn K (.ref g) = true
def tSMeth (C : Addr) (sp : Sp) (E : XK) (ta : TE) (t : TA) : TE := fun σ H Q => ta σ H fun x H1 => x = .ref C ∧ t σ H1 fun vs H2 => sp vs H2 Q E
section
variable {X : Cx} {CX : CXT} {k : Nat} {f C p g : Addr} {mc : Value} {sp : Sp} {E : XK} {x m : Str} {e o : Expr} {es : List Expr} {ta : TE} {t : TA} {pos apos : Pos}
theorem pe_methR {pl : Sem Bool} (he : PE X o ta) (c : Cls X.K C) (hm : Meth X.K C m f) (F : FnR X.prog X.w X.K X.mg X.base CX k f sp) (hr : Room k X.A) (hx : Passes CX X E) (ha : PA X (e :: es) t)
    (hst : starEach (e :: es) X.env = (false, eval e X.env) :: starEach es X.env := by rfl) (hpl : (backTo pos (starEach es X.env)).any (·.1) = false := by rfl)
    (ht : eval (.Call (.Attribute o m apos) (e :: es) [] pos) X.env = (do
      let ov ← eval o X.env
      standAt apos.atName
      let (f, first) ← holding [ov] (getMethod ov m pl)
      callWith pos f first (backTo pos (starEach (e :: es) X.env)) (backToKw pos (keywordEach [] X.env))) := by rfl) :
    PE X (.Call (.Attribute o m apos) (e :: es) [] pos) (tMeth C m sp [] E ta t) := by
  refine ⟨fun pins s σ H Q I h => ?_⟩
  refine PySem.W.methodCall_KW (pl := pl) (thn (he.run pins s σ H _ I h) fun u s1 ⟨x, H1, I1, rx, a, dx, fs, ex, ea, l, q⟩ => ?_) ht
  subst ex
  obtain rfl : u = Value.ref a := rx
  refine getmeth_ok I1 ea c hm l ?_
  refine PySem.W.callWith_K (first := [.ref a]) (h₀ := X.base) I.ok.mod.kin hm.kp (thn (ha.run pos pins s1 σ H1 _ I1 q) fun us s2 ⟨vs, H2, I2, r, q2⟩ => ⟨I2.kIn, ?_⟩) hst hpl
  replace q2 : sp (V.ref a :: (vs ++ [])) H2 Q E := q2
  rw [List.append_nil] at q2
  exact wpAny_call (run_fnR (us := .ref a :: us) (vs := .ref a :: vs) F hr hx I2 (.cons rfl r) q2)
theorem pe_smeth {pl : Sem Bool} (he : PE X o ta) (r : ClX.CRead X.K C mc) (c : SMet X.K C mc m p g) (F : FnR X.prog X.w X.K X.mg X.base CX k g sp) (hr : Room k X.A) (hx : Passes CX X E) (ha : PA X (e :: es) t)
    (hst : starEach (e :: es) X.env = (false, eval e X.env) :: starEach es X.env := by rfl) (hpl : (backTo pos (starEach es X.env)).any (·.1) = false := by rfl)
    (ht : eval (.Call (.Attribute o m apos) (e :: es) [] pos) X.env = (do
      let ov ← eval o X.env
      standAt apos.atName
      let (f, first) ← holding [ov] (getMethod ov m pl)
      callWith pos f first (backTo pos (starEach (e :: es) X.env)) (backToKw pos (keywordEach [] X.env))) := by rfl) :
    PE X (.Call (.Attribute o m apos) (e :: es) [] pos) (tSMeth C sp E ta t) := by
  refine ⟨fun pins s σ H Q I h => ?_⟩
  refine PySem.W.methodCall_KW (pl := pl) (thn (he.run pins s σ H _ I h) fun u s1 ⟨x, H1, I1, rx, ex, q⟩ => ?_) ht
  subst ex
  obtain rfl : u = Value.ref C := rx
  obtain ⟨rest, hp⟩ := c.rc
  have I1' := I1.tok (s1.toks + 1)
  refine PySem.W.method_cls I1.kIn r.ga (PySem.W.cls_bind I1.kIn r.rd c.at_ (wpAny_call (PySem.W.sm_get (s := { s1 with toks := s1.toks + 1 }) I1.kIn hp (PySem.W.handed_on rfl ?_))))
  refine PySem.W.callWith_K (first := []) (h₀ := X.base) I.ok.mod.kin c.kp (thn (ha.run pos pins _ σ H1 _ I1' q) fun us s2 ⟨vs, H2, I2, r, q2⟩ => ⟨I2.kIn, ?_⟩) hst hpl
  exact wpAny_call (run_fnR (us := us) (vs := vs) F hr hx I2 r q2)
end

/-! ### == and != of two instances of one class with an own __eq__; len by an own __len__ -/
def rOwn (C : Addr) (sp : Sp) (E : XK) (g : Bool → Bool) : R2 := fun x y H Q => ∃ a b dx dy fs gs, x = .ref a ∧ y = .ref b ∧ H a = some (.ins C dx fs) ∧ H b = some (.ins C dy gs) ∧ sp [x, y] H (fun v H' => ∃ k, v = .bl k ∧ Q (.bl (g k)) H') E
structure OwnEq (K : PySem.W.Frag) (C f : Addr) : Prop where
  at_ : PySem.W.findIn K (.ref C) "__eq__" = some (some (.ref f))
  fn : PySem.W.isFn K (.ref f) = true
structure OwnNe (K : PySem.W.Frag) (C : Addr) : Prop where
  ne : PySem.W.findIn K (.ref C) "__ne__" = some (some (.builtin "object.__ne__"))
  ob : PySem.W.mroIn K C (.type "object") = some true
section
variable {X : Cx} {CX : CXT} {k : Nat} {C f : Addr} {sp : Sp} {E : XK} {pins : List (Addr × Obj)} {σ : L2.St} {H : Hp} {s : Shared} {A : Around} {Q : VK}
theorem eq_run {a b : Addr} {E' : Value → Shared → Prop} (F : FnR X.prog X.w X.K X.mg X.base CX k f sp) (hr : Room k A) (hfr : A.frames = X.A.frames) (hx : Passes CX X E) (I : Inv X pins σ H s) (h : sp [.ref a, .ref b] H Q E) (hE : ∀ e s', X.xe e s' → E' e s') :
    wpAny (model X.prog X.w) A (call (.ref f) [.ref a, .ref b]) (EP X pins σ Q) E' s := by
  have e0 : Env0 X.prog X.w X.K X.mg X.base A X.stack s H := by
    have e := I.env0
    exact ⟨by rw [hfr]; exact e.frames, e.mod, e.bs, e.bsz, e.funs, e.frf, e.hok, e.bare⟩
  refine wpAny_call (codeAny_mono (F A X.stack s H [.ref a, .ref b] [.ref a, .ref b] Q E hr e0 (.cons rfl (.cons rfl .nil)) h) fun r s' hq => ?_)
  cases r with
  | error e => exact hE _ _ (hx pins σ H s e s' I hq)
  | ok fl =>
    cases fl with
    | ret u => exact I.after hq
    | next => exact False.elim hq
    | brk => exact False.elim hq
    | cont => exact False.elim hq
theorem op_eqO (F : FnR X.prog X.w X.K X.mg X.base CX k f sp) (hr : Room k X.A) (hx : Passes CX X E) (o : OwnEq X.K C f) : OpR X (compareOp .Eq) (rOwn C sp E id) := by
  intro pins s σ H x y u v Q I rx ry h
  obtain ⟨a, b, dx, dy, fs, gs, rfl, rfl, ha, hb, hq⟩ := h
  cases rx
  cases ry
  obtain ⟨mA, J, _⟩ := ins_get I.hok ha
  obtain ⟨mB, J', _⟩ := ins_get I.hok hb
  obtain ⟨od, J, _⟩ := J.look
  obtain ⟨od', J', _⟩ := J'.look
  obtain ⟨m, hF⟩ := I.fr
  refine PySem.W.cmp_K (op := .Eq) (tb := .ref C) hr.units0 hF I.ok.mod.kin J J'.type (by simp [PySem.W.notFirst]) o.at_ o.fn ?_
  refine thn (eq_run F hr rfl hx I hq fun _ _ z => z) fun u s1 ⟨v, H1, I1, rv, k, ev, q⟩ => ?_
  subst ev
  cases rv
  exact ⟨.bl k, H1, I1, rfl, q⟩
theorem in1_room {A : Around} {k : Nat} (hr : Room (k + 1) A) : Room k A.in1 := hr.in1
theorem op_neO (F : FnR X.prog X.w X.K X.mg X.base CX k f sp) (hr : Room (k + 1) X.A) (hx : Passes CX X E) (o : OwnEq X.K C f) (o2 : OwnNe X.K C) : OpR X (compareOp .NotEq) (rOwn C sp E not) := by
  intro pins s σ H x y u v Q I rx ry h
  obtain ⟨a, b, dx, dy, fs, gs, rfl, rfl, ha, hb, hq⟩ := h
  cases rx
  cases ry
  obtain ⟨mA, J, _⟩ := ins_get I.hok ha
  obtain ⟨mB, J', _⟩ := ins_get I.hok hb
  obtain ⟨od, J, _⟩ := J.look
  obtain ⟨od', J', _⟩ := J'.look
  have KX := I.kIn
  have ask : ∀ (A : Around) (E' : Value → Shared → Prop) (Q' : Unit → Shared → Prop), Q' () s → wpAny (model X.prog X.w) A (checkBuiltinCall "object.__ne__" ⟨[.ref a, .ref b], []⟩) Q' E' s := fun A E' Q' hQ => by
    simp only [checkBuiltinCall, PySem.F.cmpKind_ne, PySem.F.cmpSplit_ne]
    refine wpAny_bind ?_
    unfold isInstance
    refine wpAny_bind (J.type.here ?_)
    refine (PySem.W.looks_subIn KX (t := .ref C) (base := .type "object") o2.ob).here ?_
    cases hsig : Manifest.signature? "object.__ne__" with
    | none => exact wpAny_pure hQ
    | some sig =>
      have h2 : Bind.checkArgs "object.__ne__" sig ⟨[.ref a, .ref b], []⟩ = pure () := by
        have q := PySem.F.cmpArgs_ne (.ref a) (.ref b)
        simp only [argsOk, hsig] at q
        exact q
      show wpAny (model X.prog X.w) A (Bind.checkArgs "object.__ne__" sig ⟨[.ref a, .ref b], []⟩) Q' E' _
      rw [h2]
      exact wpAny_pure hQ
  have core : wpAny (model X.prog X.w) X.A (call (.builtin "object.__ne__") [.ref a, .ref b]) (fun v s' => v ≠ .notImplemented ∧ EP X pins σ Q v s') X.xe s := by
    refine wpAny_call (codeAny_call_builtin (by decide +kernel) PySem.F.cmpEntry_ne (ask _ _ _ ?_))
    show wpAny (model X.prog X.w) X.A.in1 (Builtin.«object.__ne__» ⟨[.ref a, .ref b], []⟩) _ _ s
    unfold Builtin.«object.__ne__»
    refine wpAny_bind (m := slotArgs _ _ _) (wpAny_pure ?_)
    refine wpAny_bind (wpAny_cRoomFor hr.in1.units0 ?_)
    refine wpAny_bind (m := callSpecialIfBound? (.ref a) (Str.ofString "__eq__") [.ref b]) (PySem.W.ifBound_K KX J o.at_ o.fn ?_)
    refine thn (eq_run F hr.in1 rfl hx I hq fun _ _ z => z) fun u s1 ⟨v, H1, I1, rv, k, ev, q⟩ => ?_
    subst ev
    cases rv
    refine wpAny_bind (m := truthy (.bool k)) (wpAny_truthy_bool ?_)
    exact wpAny_pure ⟨(fun z => nomatch z), .bl (!k), H1, I1, rfl, q⟩
  have hbi := PySem.F.cmp_object.ne.bind (.ref a)
  have bound : wpAny (model X.prog X.w) X.A (callSpecialIfBound? (.ref a) (Str.ofString "__ne__") [.ref b]) (fun r s' => ∃ v, r = some v ∧ v ≠ .notImplemented ∧ EP X pins σ Q v s') X.xe s := by
    simp only [callSpecialIfBound?, bindSpecialIfBound?]
    refine wpAny_holding (wpAny_bind (wpAny_bind (wpAny_bind (J.type.here ((PySem.W.looks_findIn KX o2.ne).here ?_)))))
    refine wpAny_bind (wpAny_askSetting (wpAny_ite ?_))
    have fin : wpAny (model X.prog X.w) X.A (call (.builtin "object.__ne__") ([.ref a] ++ [.ref b]) >>= fun v => pure (some v)) (fun r s' => ∃ v, r = some v ∧ v ≠ .notImplemented ∧ EP X pins σ Q v s') X.xe s :=
      wpAny_bind (wpAny_mono core (fun v s' z => wpAny_pure ⟨v, rfl, z.1, z.2⟩) fun _ _ z => z)
    split
    · rw [hbi]
      exact wpAny_bind (wpAny_pure (wpAny_pure (by exact fin)))
    · rw [hbi]
      exact wpAny_tryCatch (wpAny_bind (wpAny_pure (wpAny_pure (by exact fin))))
  have one : wpAny (model X.prog X.w) X.A (tryCompare (.ref a) (cmpInfo .NotEq).2.1 (.ref b)) (fun r s' => ∃ v, r = some v ∧ EP X pins σ Q v s') X.xe s := by
    unfold tryCompare
    refine wpAny_bind (wpAny_mono bound (fun r s' z => ?_) fun _ _ e => e)
    obtain ⟨v, rfl, hn, z⟩ := z
    cases v <;> first | exact absurd rfl hn | exact wpAny_pure ⟨_, rfl, z⟩
  show wpAny (model X.prog X.w) X.A (richCompare .NotEq (.ref a) (.ref b)) (EP X pins σ Q) X.xe s
  unfold richCompare
  simp only [oneThing_ref]
  refine wpAny_holding (wpAny_bind (wpAny_cRoomFor hr.units0 ?_))
  refine wpAny_bind (J.type.here (wpAny_bind (J'.type.here ?_)))
  rw [show (Value.ref C != Value.ref C) = false from by simp]
  simp only [Bool.false_eq_true, if_false]
  refine wpAny_bind (wpAny_pure ?_)
  simp only [Bool.false_eq_true, if_false]
  refine wpAny_bind (wpAny_mono one (fun r s' z => ?_) fun _ _ e => e)
  obtain ⟨v, rfl, z⟩ := z
  exact wpAny_pure z

/-- len(o) by an own __len__ -/
structure OwnLen (K : PySem.W.Frag) (C f : Addr) : Prop where
  at_ : PySem.W.findIn K (.ref C) "__len__" = some (some (.ref f))
  fn : PySem.W.isFn K (.ref f) = true
def rLenO (C : Addr) (sp : Sp) (E : XK) : List V → Hp → VK → Prop := fun xs H Q => ∃ a dx fs, xs = [.ref a] ∧ H a = some (.ins C dx fs) ∧ sp [.ref a] H (fun v H' => ∃ n, v = .int n ∧ 0 ≤ n ∧ n < 2 ^ 63 ∧ Q (.int n) H') E
theorem call_lenO (F : FnR X.prog X.w X.K X.mg X.base CX k f sp) (hr : Room (k + 1) X.A) (hx : Passes CX X E) (o : OwnLen X.K C f) : CallR X (.builtin "len") (rLenO C sp E) := by
  intro pins s σ H xs us Q I r h
  obtain ⟨a, dx, fs, rfl, ha, hq⟩ := h
  obtain ⟨u, rfl, ru⟩ := vals1 r
  cases ru
  obtain ⟨mA, J, _⟩ := ins_get I.hok ha
  obtain ⟨od, J, _⟩ := J.look
  obtain ⟨m, hF⟩ := I.fr
  refine PySem.W.len_K hF I.ok.mod.kin J o.at_ o.fn ?_
  have e0 : Env0 X.prog X.w X.K X.mg X.base X.A.in1 X.stack s H := I.env0.in1
  refine wpAny_call (codeAny_mono (F X.A.in1 X.stack s H [.ref a] [.ref a] _ E hr.in1 e0 (.cons rfl .nil) hq) fun r s' hq => ?_)
  cases r with
  | error e => exact hx pins σ H s e s' I hq
  | ok fl =>
    cases fl with
    | ret u =>
      obtain ⟨v, H1, I1, rv, n, ev, h0, h1, q⟩ := I.after hq
      subst ev
      obtain ⟨t, rfl⟩ := rv
      exact ⟨⟨h0, h1⟩, .int n, H1, I1.tok _, ⟨_, rfl⟩, q⟩
    | next => exact False.elim hq
    | brk => exact False.elim hq
    | cont => exact False.elim hq
end

/-! ### e[::-1] -/
theorem filterMap_same {α β : Type} {f g : α → Option β} : ∀ {l : List α}, (∀ k ∈ l, f k = g k) → l.filterMap f = l.filterMap g
  | [], _ => rfl
  | k :: l, h => by
    rw [List.filterMap_cons, List.filterMap_cons, h k List.mem_cons_self, filterMap_same fun j hj => h j (List.mem_cons_of_mem _ hj)]
theorem rev_pick (xs : Array Value) : ((List.range xs.size).filterMap fun (k : Nat) => xs[(((xs.size : Nat) : Int) - 1 + (k : Int) * (-1)).toNat]?).toArray = xs.toList.reverse.toArray := by
  have e : ((List.range xs.size).filterMap fun (k : Nat) => xs[(((xs.size : Nat) : Int) - 1 + (k : Int) * (-1)).toNat]?) = ((List.range xs.size).map fun k => xs.size - 1 - k).filterMap (xs[·]?) := by
    rw [List.filterMap_map]
    refine filterMap_same fun k hk => ?_
    have hk' := List.mem_range.mp hk
    have e2 : (((xs.size : Nat) : Int) - 1 + (k : Int) * (-1)).toNat = xs.size - 1 - k := by omega
    show xs[(((xs.size : Nat) : Int) - 1 + (k : Int) * (-1)).toNat]? = xs[xs.size - 1 - k]?
    rw [e2]
  rw [e, PySem.W.krv_range, List.filterMap_reverse, PySem.W.krv_all]
section
variable {prog : Program} {w : World} {A : Around} {E : Value → Shared → Prop} {s : Shared}
theorem getItem_tuple_rev {t sl : Addr} {items : Array Value} {tk : Tok} {Q : Value → Shared → Prop} (ht : IsTup s.heap t items) (hs : s.heap.IsSliceOf sl .none .none (.int (-1) tk))
    (h : Q (.ref s.heap.objs.size) { s with heap := s.heap.push { cls := .type "tuple", data := .seq items.toList.reverse.toArray } }) (hsz : items.size ≤ sizeLine) : wpAny (model prog w) A (getItem (.ref t) (.ref sl)) Q E s := by
  have htake : sizeOk (.seq items.toList.reverse.toArray) := by
    show items.toList.reverse.toArray.size ≤ sizeLine
    rw [List.size_toArray, List.length_reverse, Array.length_toList]
    exact hsz
  obtain ⟨os, hos, hcs, hds⟩ := id hs
  have hTs : s.TypeIs (.ref sl) "slice" := ⟨os, hos, hcs⟩
  unfold getItem
  try with_reducible refine wpAny_holding ?_
  first | refine wpAny_bind (wpAny_pure ?_) | skip
  refine wpAny_bind (wpAny_sequenceKey ht.typeIs (by decide) ?_)
  refine wpAny_bind (wpAny_callSpecial?_slot (name := Str.ofString "__getitem__") ht.typeIs PyProof.Rows.slot_tuple_getitem
    (wpAny_call_entry PyProof.Rows.slot_tuple_getitem ht.typeIs entry_tuple_getitem ?_ (args_tuple_getitem _ _)))
  show wpAny _ _ (Builtin.Tuple.tupleItemsOf (.ref t) >>= _) _ _ s
  refine wpAny_bind (PyProof.Rows.tupleItemsOf_ ht ?_)
  refine wpAny_bind (wpAny_typeOf hTs ?_)
  rw [if_pos (by decide)]
  have hpl : Builtin.Slice.slicePlaces (((items.size : Nat) : Int) - 1) (-1) (-1) = items.size := by
    unfold Builtin.Slice.slicePlaces
    have h1 : ¬ ((-1 : Int) > 0) := by decide
    simp only [h1, if_false]
    split
    · rw [show (- -1 : Int) = 1 by decide, Int.ediv_one]
      omega
    · omega
  have happ : ∀ (A' : Around) (Q : Int × Int × Nat → Shared → Prop) (E : Value → Shared → Prop), Q (((items.size : Nat) : Int) - 1, -1, items.size) s → wpAny (model prog w) A' (Builtin.Slice.sliceApplied (.ref sl) (pure (items.size : Int))) Q E s := fun A' Q E h => by
    unfold Builtin.Slice.sliceApplied Builtin.Slice.sliceFields
    refine wpAny_bind (wpAny_bind (wpAny_field hos hds (x := .none) rfl (wpAny_bind (wpAny_field hos hds (x := .none) rfl (wpAny_bind (wpAny_field hos hds (x := .int (-1) tk) rfl (wpAny_pure ?_)))))))
    refine wpAny_bind (HT.slicePart_ (.int (-1) tk) ?_)
    show wpAny _ _ (if ((-1 : Int) == 0) = true then _ else _) _ _ s
    rw [if_neg (by decide)]
    refine wpAny_bind (HT.slicePart_ .none (wpAny_bind (HT.slicePart_ .none (wpAny_bind (wpAny_pure ?_)))))
    show wpAny _ _ (pure (((items.size : Nat) : Int) - 1, (-1 : Int), Builtin.Slice.slicePlaces (((items.size : Nat) : Int) - 1) (-1) (-1))) _ _ s
    rw [hpl]
    exact wpAny_pure h
  refine wpAny_bind (happ _ _ _ ?_)
  have hno : ¬ (((((items.size : Nat) : Int) - 1) == 0 && (-1 : Int) == 1 && items.size == items.size) = true) := by simp
  show wpAny _ _ (if ((((items.size : Nat) : Int) - 1) == 0 && (-1 : Int) == 1 && items.size == items.size) = true then _ else _) _ _ s
  rw [if_neg hno, rev_pick]
  first
    | exact wpAny_bind (m := Builtin.Tuple.tupleExact _) (wpAny_newObj_type (wpAny_pure ⟨_, rfl, wpAny_pure h⟩) htake)
    | exact wpAny_bind (m := Builtin.Tuple.tupleExact _) (wpAny_newObj_type (wpAny_bind (wpAny_pure (wpAny_pure ⟨_, rfl, wpAny_pure h⟩))) htake)
    | exact wpAny_bind (wpAny_bind (m := Builtin.Tuple.tupleExact _) (wpAny_newObj_type (wpAny_pure (wpAny_pure ⟨_, rfl, wpAny_pure h⟩)) htake))
    | exact wpAny_bind (wpAny_bind (m := Builtin.Tuple.tupleExact _) (wpAny_newObj_type (wpAny_pure ⟨_, rfl, wpAny_pure h⟩) htake))
end
def tRevT (K : PySem.W.Frag) (te : TE) : TE := fun σ H Q => te σ H fun x H1 => ∃ a xs, x = .ref a ∧ SqT K H1 a xs ∧ ∀ p, H1 p = none → Q (.ref p) (upd H1 p (.tup xs.reverse))
theorem pe_revT {X : Cx} {te : TE} {e : Expr} {k : Nat} {p1 p2 p3 pos : Pos} (he : PE X e te) : PE X (.Subscript e (.Slice none none (some (.UnaryOp .USub (.Constant (.int 1) k p1) p2)) p3) pos) (tRevT X.K te) := by
  refine ⟨fun pins s σ H Q I h => ?_⟩
  refine Subscript_ (thn (he.run pins s σ H _ I h) fun v s1 ⟨x, H1, I1, r1, q1⟩ => ?_)
  obtain ⟨a, xs, ex, hx, q⟩ := q1
  subst ex
  cases r1
  have hst : PO X (some (.UnaryOp .USub (.Constant (.int 1) k p1) p2)) (tPart (tUn (rU fun i => .int (-i)) (tC (.int 1)))) := po_some (pe_un un_neg pe_int)
  refine wpAny_Slice (thn (po_none.run pins s1 σ H1 (fun o H2 => o = none ∧ H2 = H1) I1 ⟨rfl, rfl⟩) fun vl s2 ⟨l, H2, I2, pl, el, e2⟩ => ?_)
  subst el e2
  refine thn (po_none.run pins s2 σ H2 (fun o H3 => o = none ∧ H3 = H2) I2 ⟨rfl, rfl⟩) fun vu s3 ⟨u, H3, I3, pu, eu, e3⟩ => ?_
  subst eu e3
  refine thn (hst.run pins s3 σ H3 (fun o H4 => o = some (-1) ∧ H4 = H3) I3 ⟨1, rfl, -1, rfl, rfl, rfl⟩) fun vs s4 ⟨o, H4, I4, ps, eo, e4⟩ => ?_
  subst eo e4
  cases pl
  cases pu
  cases ps with
  | int i tk =>
    have I5 : Inv X pins σ H4 { s4 with heap := s4.heap.push { cls := .type "slice", data := .fields #[.none, .none, .int (-1) tk] } } := I4.kept (t' := s4.toks) fun b ob q => Heap.get?_push_of_some _ q
    obtain ⟨its, r, ht, hz⟩ := I5.tuple hx
    have hlen := r.length
    show wpAny (model X.prog X.w) X.A (subscriptTail e (.Slice none none (some (.UnaryOp .USub (.Constant (.int 1) k p1) p2)) p3) (.ref a) (.ref s4.heap.objs.size)) (EP X pins σ Q) X.xe { s4 with heap := s4.heap.push { cls := .type "slice", data := .fields #[.none, .none, .int (-1) tk] } }
    refine tail_any (ops := [.ref a, .ref s4.heap.objs.size]) ht.typeIs (PyProof.Rows.slot_tuple_getitem.lookup) ?_ (by with_unfolding_all rfl)
    refine getItem_tuple_rev ht (Heap.IsSliceOf.new _ .none .none (.int (-1) tk)) ?_ (by rw [List.size_toArray]; omega)
    refine ⟨.ref _, _, I5.laid (t' := s4.toks) (o := .tup xs.reverse) (fun b ob q => Heap.get?_push_of_some _ q) (Nat.le_refl _) ?_, rfl, q _ (I5.hok.fresh (Nat.le_refl _))⟩
    exact ⟨by rw [List.length_reverse]; exact hz, _, r.reverse, IsTup.new _ _⟩
end Wk
/-! ## WkJ -/
/-! own classes, over data. -/
namespace Wk
open PySem L2 Evl

section
variable {K : PySem.W.Frag} {ρ : Rho} {M : Mm} {Φ : Dt → Mm → Prop} {ta te tf tv : TE} {t : TA} {E : XK} {C : Addr} {α : Type} {pre : α → List Dt → Mm → Prop} {post : α → Mm → Dt → Mm → Prop}
theorem src_or {H : Hp} {p : Addr} {ys : List V} (h : SqL K H p ys ∨ SqT K H p ys) : SqT K H p ys ∨ SqL K H p ys := h.symm
theorem ax_star {Φ : List Dt → Mm → Prop} (h : EX K te ρ M (fun d M1 => ∃ xs G, WSrc M1 d xs G ∧ AX K t ρ M1 (fun ys M2 => Φ (xs ++ ys) M2))) : AX K (StX.tStar K te t) ρ M Φ := fun B H H1 σ o s Q q =>
  h B H H1 σ o s _ fun v d M' H' H2 z k e r => by
    obtain ⟨xs, G, hs, z⟩ := z
    obtain ⟨a, us, rfl, h1, r1⟩ := lst_src hs k r
    exact ⟨a, us, rfl, src_or h1, z B H' H2 σ k (s.mono e) _ fun vs ds M2 H3 H4 z2 k2 e2 r2 => q _ _ _ _ _ z2 k2 (e.trans e2) ((r1.mono e2).append r2)⟩
/-- C(*e): a new instance, a cell, then __init__ -/
theorem ex_makeS (h : EX K te ρ M (fun d M1 => ∃ xs G, WSrc M1 d xs G ∧ ∀ x, M1 x = none → ∃ y, pre y (.raw (.ref x) :: xs) (put M1 x (.ins C [])) ∧ ∀ d M2, post y (put M1 x (.ins C [])) d M2 → d = .non ∧ Φ (.raw (.ref x)) M2)) :
    EX K (tMakeS K C (SpD K pre post) E te) ρ M Φ := fun B H H1 σ o s Q q =>
  h B H H1 σ o s _ fun v d M' H' H2 z k e r => by
    obtain ⟨xs, G, hs, z⟩ := z
    obtain ⟨a, us, rfl, h1, r1⟩ := lst_src hs k r
    refine ⟨a, us, rfl, src_or h1, fun x dx hx hdx ne => ?_⟩
    obtain ⟨y, z1, z2⟩ := z x (k.noMem hx)
    have k1 := k.grow (o := .own x) hdx
    have e1 := Ex.new (o := .own x) (fresh_back k.h hdx)
    have hx1 : upd H2 dx (.own x) x = none := by
      rw [upd_ne ne.symm]
      exact hx
    have k2 := k1.cell (o := .ins C dx []) (c := .ins C []) hx1 ⟨dx, [], upd_same, .nil⟩
    exact ⟨y, B, _, _, _, k2, .cons (.raw _) (r1.mono e1), z1, fun v d M3 H5 H6 hp k3 e3 r3 => by
      obtain ⟨rfl, z3⟩ := z2 d M3 hp
      exact ⟨r3.non_inv, q _ _ _ _ _ z3 k3 (e.trans (e1.trans e3)) (.raw _)⟩⟩
theorem ex_makeV (h : EX K tf ρ M (fun c M0 => c = .raw (.ref C) ∧ EX K (tMakeS K C (SpD K pre post) E te) ρ M0 Φ)) : EX K (tMakeV K C (SpD K pre post) E tf te) ρ M Φ := fun B H H1 σ o s Q q =>
  h B H H1 σ o s _ fun v d M' H' H2 z k e r => by
    obtain ⟨rfl, z⟩ := z
    exact ⟨r.raw_inv, z B H' H2 σ k (s.mono e) Q fun v d M3 H3 H4 z3 k3 e3 r3 => q v d M3 H3 H4 z3 k3 (e.trans e3) r3⟩
theorem ex_cmeth (h : EX K ta ρ M (fun x M1 => x = .raw (.ref C) ∧ AX K t ρ M1 (fun ds M2 => ∃ y, pre y (.raw (.ref C) :: ds) M2 ∧ ∀ d M3, post y M2 d M3 → Φ d M3))) : EX K (ClX.tCMeth C (SpD K pre post) E ta t) ρ M Φ := fun B H H1 σ o s Q q =>
  h B H H1 σ o s _ fun v d M' H' H2 z k e r => by
    obtain ⟨rfl, z⟩ := z
    exact ⟨r.raw_inv, z B H' H2 σ k (s.mono e) _ fun vs ds M2 H3 H4 ⟨y, z1, z2⟩ k2 e2 r2 => ⟨y, B, H3, M2, _, k2, .cons (.raw _) r2, z1, fun v d M3 H5 H6 hp k3 e3 r3 => q v d M3 H5 H6 (z2 d M3 hp) k3 ((e.trans e2).trans e3) r3⟩⟩
theorem ex_smeth (h : EX K ta ρ M (fun x M1 => x = .raw (.ref C) ∧ AX K t ρ M1 (fun ds M2 => ∃ y, pre y ds M2 ∧ ∀ d M3, post y M2 d M3 → Φ d M3))) : EX K (tSMeth C (SpD K pre post) E ta t) ρ M Φ := fun B H H1 σ o s Q q =>
  h B H H1 σ o s _ fun v d M' H' H2 z k e r => by
    obtain ⟨rfl, z⟩ := z
    exact ⟨r.raw_inv, z B H' H2 σ k (s.mono e) _ fun vs ds M2 H3 H4 ⟨y, z1, z2⟩ k2 e2 r2 => ⟨y, B, H3, M2, _, k2, r2, z1, fun v d M3 H5 H6 hp k3 e3 r3 => q v d M3 H5 H6 (z2 d M3 hp) k3 ((e.trans e2).trans e3) r3⟩⟩
theorem ex_cval {f : Str} {mc u : Value} {v : V} {d : Dt} (c : ClX.CRead K C mc) (cv : ClX.CVal K C mc f v u) (r : ∀ H, Rp K H v d) (h : EX K ta ρ M (fun x M1 => x = .raw (.ref C) ∧ Φ d M1)) : EX K (ClX.tCVal K ta f) ρ M Φ := fun B H H1 σ o s Q q =>
  h B H H1 σ o s _ fun w x M' H' H2 z k e rx => by
    obtain ⟨rfl, z⟩ := z
    exact ⟨C, mc, v, u, rx.raw_inv, c, cv, q v d M' H' H2 z k e (r _)⟩
theorem rx_own {g : Bool → Bool} {fs gs : List (Str × Dt)} (h : ∃ z, pre z [.obj C fs, .obj C gs] M ∧ ∀ d M', post z M d M' → ∃ b, d = .bl b ∧ Φ (.bl (g b)) M') : RX K (rOwn C (SpD K pre post) E g) (.obj C fs) (.obj C gs) M Φ := fun B H H1 vx vy o rx ry Q q => by
  obtain ⟨z, z1, z2⟩ := h
  obtain ⟨a, dx, us, rfl, h1, r1⟩ := rx.obj_inv
  obtain ⟨b, dy, ws, rfl, h2, r2⟩ := ry.obj_inv
  refine ⟨a, b, dx, dy, us, ws, rfl, rfl, o.h _ _ h1, o.h _ _ h2, z, B, H, M, _, o, .cons rx (.one ry), z1, fun v d M3 H5 H6 hp k3 e3 r3 => ?_⟩
  obtain ⟨b, rfl, z3⟩ := z2 d M3 hp
  exact ⟨b, r3.bl_inv, q _ _ _ _ _ z3 k3 e3 (.bl _)⟩
theorem cx_lenO {fs : List (Str × Dt)} (h : ∃ z, pre z [.obj C fs] M ∧ ∀ d M', post z M d M' → ∃ n, d = .int n ∧ 0 ≤ n ∧ n < 2 ^ 63 ∧ Φ (.int n) M') : CX K (rLenO C (SpD K pre post) E) [.obj C fs] M Φ := fun B H H1 vs o r Q q => by
  obtain ⟨z, z1, z2⟩ := h
  cases r with
  | cons r rr =>
    cases rr
    obtain ⟨a, dx, us, rfl, h1, r1⟩ := r.obj_inv
    refine ⟨a, dx, us, rfl, o.h _ _ h1, z, B, H, M, _, o, .one r, z1, fun v d M3 H5 H6 hp k3 e3 r3 => ?_⟩
    obtain ⟨n, rfl, l1, l2, z3⟩ := z2 d M3 hp
    exact ⟨n, r3.int_inv, l1, l2, q _ _ _ _ _ z3 k3 e3 (.int _)⟩
theorem ex_revT (h : EX K te ρ M (fun d M1 => ∃ xs, d = .tup xs ∧ Φ (.tup xs.reverse) M1)) : EX K (tRevT K te) ρ M Φ := fun B H H1 σ o s Q q =>
  h B H H1 σ o s _ fun v d M' H' H2 z k e r => by
    obtain ⟨xs, rfl, z⟩ := z
    obtain ⟨a, us, rfl, h1, r1⟩ := r.tup_inv
    refine ⟨a, us, rfl, ex_t k.h h1, fun p hp => ?_⟩
    have e2 := Ex.new (o := .tup us.reverse) (fresh_back k.h hp)
    exact q _ _ _ _ _ z (k.grow hp) (e.trans e2) (.tup (st_of upd_same) (r1.reverse.mono e2))
theorem ex_revL (h : EX K te ρ M (fun d M1 => ∃ xs G, (d = .lst xs ∨ d = .frl xs ∨ ∃ a, d = .raw (.ref a) ∧ M1 a = some (.lst xs)) ∧ WSrc M1 d xs G ∧ Φ (.lst xs.reverse) M1)) : EX K (tRevL K te) ρ M Φ := fun B H H1 σ o s Q q =>
  h B H H1 σ o s _ fun v d M' H' H2 z k e r => by
    obtain ⟨xs, G, hd, hs, z⟩ := z
    have key : ∃ a us, v = .ref a ∧ SqL K H2 a us ∧ RpAll K H' us xs := by
      rcases hd with rfl | rfl | ⟨a, rfl, hm⟩
      · obtain ⟨a, us, rfl, h1, r1⟩ := r.lst_inv
        exact ⟨a, us, rfl, sq_of (k.h _ _ h1), r1⟩
      · obtain ⟨a, us, rfl, h1, r1⟩ := r.frl_inv
        exact ⟨a, us, rfl, ex_l k.h h1, r1⟩
      · obtain ⟨m1, m2, us, h1, r1⟩ := k.m a _ hm
        exact ⟨a, us, r.raw_inv, sq_of h1, r1⟩
    obtain ⟨a, us, rfl, h1, r1⟩ := key
    refine ⟨a, us, rfl, h1, fun p hp => ?_⟩
    have e2 := Ex.new (o := .lst us.reverse) (fresh_back k.h hp)
    exact q _ _ _ _ _ z (k.grow hp) (e.trans e2) (.lst upd_same (r1.reverse.mono e2))
def putD (f : Str) (d : Dt) : List (Str × Dt) → List (Str × Dt)
  | [] => [(f, d)]
  | (g, x) :: r => if g = f then (g, d) :: r else (g, x) :: putD f d r
theorem RpFs.put {H : Hp} {f : Str} {v : V} {d : Dt} (h : Rp K H v d) : ∀ {vs : List (Str × V)} {ds : List (Str × Dt)}, RpFs K H vs ds → RpFs K H (putF f v vs) (putD f d ds)
  | _, _, .nil => .cons h .nil
  | _, _, .cons (f := g) (vs := vs) (ds := ds) (v := v0) (d := d0) q r => by
    show RpFs K H (if g = f then (g, v) :: vs else (g, v0) :: putF f v vs) (if g = f then (g, d) :: ds else (g, d0) :: putD f d ds)
    by_cases e : g = f
    · rw [if_pos e, if_pos e]
      exact .cons h r
    · rw [if_neg e, if_neg e]
      exact .cons q (RpFs.put h r)
theorem sx_fld {f : Str} {E : Es} (h : EX K tv ρ M (fun y M1 => EX K ta ρ M1 (fun x M2 => ∃ a C fs, x = .raw (.ref a) ∧ M2 a = some (.ins C fs) ∧ Cls K C ∧ NoAttr K C f ∧ fs.length < 1000 ∧ E.nx ρ (put M2 a (.ins C (putD f y fs)))))) : SX K (sFld K ta tv f) ρ M E := fun B H H1 σ D o s r =>
  h B H H1 σ o s _ fun v y M1 H2 H3 z k e rv => z B H2 H3 σ k (s.mono e) _ fun u x M2 H4 H5 z2 k2 e2 ru => by
    obtain ⟨a, C, fs, rfl, hm, cl, na, hl, z3⟩ := z2
    obtain ⟨m1, m2, dx, us, h1, r1⟩ := k2.m a _ hm
    exact ⟨a, C, dx, us, ru.raw_inv, h1, cl, na, by rw [r1.length]; exact hl, r.nx _ _ _ H4 _ z3 (k2.write hm ⟨dx, _, upd_same, RpFs.put (rv.mono e2) r1⟩) (s.mono (e.trans e2)) (e.trans e2)⟩
structure IsC (K : PySem.W.Frag) (C : Addr) : Prop where
  cl : Cls K C
  ha : PySem.W.findIn K (.ref C) "__class__" = some (some (.builtin "object.__class__"))
  hn : PySem.W.specialIn K (.builtin "object.__class__") "__get__" = some (some (.builtin "getset_descriptor.__get__"))
  htk : PySem.W.takesIn K (.builtin "object.__class__") = some true
  hm : PySem.W.mroIn K C (.type "object") = some true
theorem cx_isi {D : Addr} {b : Bool} {fs : List (Str × Dt)} (c : IsC K C) (e : PySem.W.kitOne K (.ref C) (.ref D) = some b) (k : Φ (.bl b) M) : CX K (rIsi K) [.obj C fs, .raw (.ref D)] M Φ := fun B H H1 vs o r Q q => by
  cases r with
  | cons r rr =>
    cases rr with
    | cons r2 rr =>
      cases rr
      obtain ⟨a, dx, us, rfl, h1, r1⟩ := r.obj_inv
      obtain rfl := r2.raw_inv
      exact ⟨_, _, .ref C, .ref D, b, rfl, .own D, .base (.ins (o.h _ _ h1) c.cl c.ha c.hn c.htk c.hm), e, q _ _ _ _ _ k o (Ex.refl H) (.bl b)⟩
theorem ex_fldC {f : Str} (h : EX K te ρ M (fun x M1 => ∃ a C fs d, x = .raw (.ref a) ∧ M1 a = some (.ins C fs) ∧ Cls K C ∧ NoAttr K C f ∧ fs.lookup f = some d ∧ Φ d M1)) : EX K (tFld K te f) ρ M Φ := fun B H H1 σ o s Q q =>
  h B H H1 σ o s _ fun v x M' H' H2 z k e r => by
    obtain ⟨a, C, fs, d, rfl, hm, cl, na, l, z⟩ := z
    obtain ⟨m1, m2, dx, us, h1, r1⟩ := k.m a _ hm
    obtain ⟨w, l2, r2⟩ := r1.lookup l
    exact ⟨a, C, dx, us, w, r.raw_inv, h1, cl, na, l2, q w d M' H' H2 z k e r2⟩
end

/-! ### promises of the defs of a class -/
section
variable (P : Program) (w : World) (K : PySem.W.Frag) (mg : Str → Option Value) (base : Heap) (k : Nat) (C : Addr)
structure MetR (m : Str) (sp : Sp) : Prop where
  cl : Cls K C
  ex : ∃ f, Meth K C m f ∧ FnR P w K mg base CX0 k f sp
structure PrpR (m : Str) (sp : Sp) : Prop where
  cl : Cls K C
  ex : ∃ p g fd ps, PropOf K C m p g ∧ FnOk P w K mg base CX0 k g fd ps sp ∧ Binds K fd ps []
structure StaR (m : Str) (sp : Sp) : Prop where
  ex : ∃ mc p g, ClX.CRead K C mc ∧ SMet K C mc m p g ∧ FnR P w K mg base CX0 k g sp
structure CmtR (m : Str) (sp : Sp) : Prop where
  ex : ∃ mc p g, ClX.CRead K C mc ∧ ClX.CMet K C mc m p g ∧ FnR P w K mg base CX0 k g sp
structure MkR (x : Str) (sp : Sp) : Prop where
  gl : mg x = some (.ref C)
  ex : ∃ f, Mk K C f ∧ FnR P w K mg base CX0 k f sp
structure EqR (sp : Sp) : Prop where
  ex : ∃ f, OwnEq K C f ∧ OwnNe K C ∧ FnR P w K mg base CX0 k f sp
structure LenR (sp : Sp) : Prop where
  ex : ∃ f, OwnLen K C f ∧ FnR P w K mg base CX0 k f sp
end
section
variable {X : Cx} {k j : Nat} {C : Addr} {x m : Str} {sp : Sp} {p pos apos sp_ : Pos} {e o fe : Expr} {es : List Expr} {ta te tf : TE} {t : TA}
theorem pe_mR {pl : Sem Bool} (c : MetR X.prog X.w X.K X.mg X.base k C m sp) (hr : Room j X.A) (hk : k ≤ j) (he : PE X o ta) (ha : PA X (e :: es) t)
    (hst : starEach (e :: es) X.env = (false, eval e X.env) :: starEach es X.env := by rfl) (hpl : (backTo pos (starEach es X.env)).any (·.1) = false := by rfl)
    (ht : eval (.Call (.Attribute o m apos) (e :: es) [] pos) X.env = (do
      let ov ← eval o X.env
      standAt apos.atName
      let (f, first) ← holding [ov] (getMethod ov m pl)
      callWith pos f first (backTo pos (starEach (e :: es) X.env)) (backToKw pos (keywordEach [] X.env))) := by rfl) :
    PE X (.Call (.Attribute o m apos) (e :: es) [] pos) (tMeth C m sp [] E0 ta t) := by
  obtain ⟨f, hm, F⟩ := c.ex
  exact pe_methR he c.cl hm F (hr.mono hk) pass0 ha hst hpl ht
theorem pe_pR (c : PrpR X.prog X.w X.K X.mg X.base k C m sp) (hr : Room j X.A) (hk : k + 1 ≤ j) (he : PE X e te) (hab : attributeBase e m X.env (eval e X.env) = eval e X.env := by rfl) (hn : X.nox = X.nox := rfl) (hx : Passes CX0 X.nox E0 := by exact pass0) :
    PE X (.Attribute e m pos) (tProp C sp [] E0 te) := by
  obtain ⟨p, g, fd, ps, hp, F, hb⟩ := c.ex
  exact pe_prop he c.cl hp F (hr.mono hk) hb .nil hx hab
theorem pe_sR {pl : Sem Bool} (c : StaR X.prog X.w X.K X.mg X.base k C m sp) (hr : Room j X.A) (hk : k ≤ j) (he : PE X o ta) (ha : PA X (e :: es) t)
    (hst : starEach (e :: es) X.env = (false, eval e X.env) :: starEach es X.env := by rfl) (hpl : (backTo pos (starEach es X.env)).any (·.1) = false := by rfl)
    (ht : eval (.Call (.Attribute o m apos) (e :: es) [] pos) X.env = (do
      let ov ← eval o X.env
      standAt apos.atName
      let (f, first) ← holding [ov] (getMethod ov m pl)
      callWith pos f first (backTo pos (starEach (e :: es) X.env)) (backToKw pos (keywordEach [] X.env))) := by rfl) :
    PE X (.Call (.Attribute o m apos) (e :: es) [] pos) (tSMeth C sp E0 ta t) := by
  obtain ⟨mc, p, g, r, hm, F⟩ := c.ex
  exact pe_smeth he r hm F (hr.mono hk) pass0 ha hst hpl ht
theorem pe_cmR {pl : Sem Bool} (c : CmtR X.prog X.w X.K X.mg X.base k C m sp) (hr : Room j X.A) (hk : k ≤ j) (he : PE X o ta) (ha : PA X (e :: es) t)
    (hst : starEach (e :: es) X.env = (false, eval e X.env) :: starEach es X.env := by rfl) (hpl : (backTo pos (starEach es X.env)).any (·.1) = false := by rfl)
    (ht : eval (.Call (.Attribute o m apos) (e :: es) [] pos) X.env = (do
      let ov ← eval o X.env
      standAt apos.atName
      let (f, first) ← holding [ov] (getMethod ov m pl)
      callWith pos f first (backTo pos (starEach (e :: es) X.env)) (backToKw pos (keywordEach [] X.env))) := by rfl) :
    PE X (.Call (.Attribute o m apos) (e :: es) [] pos) (ClX.tCMeth C sp E0 ta t) := by
  obtain ⟨mc, p, g, r, hm, F⟩ := c.ex
  exact ClX.pe_cmeth he r hm F (hr.mono hk) pass0 ha hst hpl ht
theorem pe_mkS (c : MkR X.prog X.w X.K X.mg X.base k C x sp) (hr : Room j X.A) (hk : k + 1 ≤ j) (hg : Gl X x) (he : PE X e te) (hd : (x == ("__debug__" : Str)) = false := by decide)
    (hst : starEach [.Starred e sp_] X.env = [(true, eval e X.env)] := by rfl) : PE X (.Call (.Name x p) [.Starred e sp_] [] pos) (tMakeS X.K C sp E0 te) := by
  obtain ⟨f, M, F⟩ := c.ex
  exact pe_makeS M F (hr.mono hk) hg c.gl pass0 he hd hst
theorem pe_mkV (c : MkR X.prog X.w X.K X.mg X.base k C x sp) (hr : Room j X.A) (hk : k + 1 ≤ j) (hf : PE X fe tf) (he : PE X e te)
    (hst : starEach [.Starred e sp_] X.env = [(true, eval e X.env)] := by rfl)
    (ht : eval (.Call fe [.Starred e sp_] [] pos) X.env = (do callWith pos (← eval fe X.env) [] (backTo pos (starEach [.Starred e sp_] X.env)) (backToKw pos (keywordEach [] X.env))) := by rfl) : PE X (.Call fe [.Starred e sp_] [] pos) (tMakeV X.K C sp E0 tf te) := by
  obtain ⟨f, M, F⟩ := c.ex
  exact pe_makeV M F (hr.mono hk) pass0 hf he hst ht
theorem op_eqR (c : EqR X.prog X.w X.K X.mg X.base k C sp) (hr : Room j X.A) (hk : k ≤ j) : OpR X (compareOp .Eq) (rOwn C sp E0 id) := by
  obtain ⟨f, o, _, F⟩ := c.ex
  exact op_eqO F (hr.mono hk) pass0 o
theorem op_neR (c : EqR X.prog X.w X.K X.mg X.base k C sp) (hr : Room j X.A) (hk : k + 1 ≤ j) : OpR X (compareOp .NotEq) (rOwn C sp E0 not) := by
  obtain ⟨f, o, o2, F⟩ := c.ex
  exact op_neO F (hr.mono hk) pass0 o o2
theorem call_lenR (c : LenR X.prog X.w X.K X.mg X.base k C sp) (hr : Room j X.A) (hk : k + 1 ≤ j) : CallR X (.builtin "len") (rLenO C sp E0) := by
  obtain ⟨f, o, F⟩ := c.ex
  exact call_lenO F (hr.mono hk) pass0 o
end
/-- a def with *v behind n parameters: its promise of what it is called with -/
theorem starD {K : PySem.W.Frag} {α : Type} {pre pre' : α → List Dt → Mm → Prop} {post : α → Mm → Dt → Mm → Prop} {n : Nat} {vs : List V} {H1 : Hp} {Q : VK} {E : XK} (hp : ∀ x ds M, pre' x ds M → ∃ hd tl, ds = hd ++ tl ∧ hd.length = n ∧ tl.length ≤ sizeLine ∧ pre x (hd ++ [.tup tl]) M)
    (h : SpD K pre' post vs H1 Q E) : ∃ ws rest, vs = ws ++ rest ∧ ws.length = n ∧ rest.length ≤ sizeLine ∧ ∀ p, H1 p = Option.none → SpD K pre post (ws ++ [V.ref p]) (upd H1 p (.tup rest)) Q E := by
  obtain ⟨x, B, H, M, ds, o, r, hpre, q⟩ := h
  obtain ⟨hd, tl, rfl, h1, h2, h3⟩ := hp x ds M hpre
  refine ⟨vs.take n, vs.drop n, (List.take_append_drop n vs).symm, ?_, ?_, fun p hpn => ?_⟩
  · have e := r.length
    rw [List.length_append] at e
    rw [List.length_take]
    omega
  · have e := r.length
    rw [List.length_append] at e
    rw [List.length_drop]
    omega
  · have r1 := r.take n
    have r2 := r.drop n
    rw [List.take_left' h1] at r1
    rw [List.drop_left' h1] at r2
    have e1 := Ex.new (o := .tup (vs.drop n)) (fresh_back o.h hpn)
    exact ⟨x, B, _, M, _, o.grow hpn, (r1.mono e1).append (.one (.tup (st_of upd_same) (r2.mono e1))), h3, fun v d M' H' H2 z k e r => q v d M' H' H2 z k (e1.trans e) r⟩
end Wk
/-! ## WkK -/
/-! defs with *v, and with *v and a keyword-only default. -/
namespace Wk
open PySem PySem.Spec PyProof.Rows L2
section
variable {P : Program} {w : World} {K : PySem.W.Frag} {mg : Str → Option Value} {base : Heap} {k : Nat} {f D : Addr} {x qual : Str} {st : Stmt} {fd : FuncData} {N ps : List Str} {sp : Sp} {pv kw : Str} {dv : V} {du : Value}
/-- how such a def binds -/
def BindS (x qual : Str) (st : Stmt) (ps : List Str) (pv : Str) : Prop := ∀ (kV doc pm : Value) (an : Option Addr) (cdv ct : Value) (us rest : List Value), us.length = ps.length →
  bindArgs (PySem.W.fnOf x qual (defArgs st) (defBody st) (defScope st) .none kV doc pm an cdv ct) ⟨us ++ rest, []⟩ = (newTuple rest >>= fun t => pure (ps.zip us ++ [(pv, t)]))
def BindSK (x qual : Str) (st : Stmt) (ps : List Str) (kw pv : Str) : Prop := ∀ (D : Addr) (doc pm : Value) (an : Option Addr) (cdv ct : Value) (us rest : List Value) (v : Value), us.length = ps.length →
  ∃ (β γ : Type) (k1 : Option Value → Sem β) (k2 : β → Sem γ) (k3 : γ → Sem (List (Str × Value))) (a : β), bindArgs (PySem.W.fnOf x qual (defArgs st) (defBody st) (defScope st) .none (.ref D) doc pm an cdv ct) ⟨us ++ rest, []⟩ = ((nsGet D kw >>= k1) >>= k2) >>= k3 ∧ k1 (some v) = pure a ∧
    (k2 a >>= k3) = (newTuple rest >>= fun t => pure (ps.zip us ++ [(kw, v), (pv, t)]))
theorem fun_star (F : Fun K x qual st f fd) (S : FnScope N (ps ++ [pv]) (defScope st)) (hb : BindS x qual st ps pv)
    (hbody : ∀ (cdv : Value) (A : Around) (outer : List Env) (s : Shared) (H : Hp) (vs : List V) (Q : VK) (E : XK), Room k (A.deeper (envOfC qual (defScope st) s.heap.objs.size f cdv)) → sp vs H Q E →
      ∃ t, PSs (cxOf CX0 P w K mg base N qual (defScope st) f cdv A outer s H E).nox (defBody st) t ∧ t { nx := fun _ H' => Q .non H', rt := Q } (start N vs) H) :
    FnR P w K mg base CX0 (k + 1) f (fun vs H Q E => ∃ ws rest, vs = ws ++ rest ∧ ws.length = ps.length ∧ rest.length ≤ sizeLine ∧ ∀ p, H p = Option.none → sp (ws ++ [V.ref p]) (upd H p (.tup rest)) Q E) := by
  obtain ⟨oc, od, kV, doc, pm, an, cdv, ct, osl, rfl, lk, hcd⟩ := F.ex
  exact StX.fn_star lk hcd S StX.cxUp_none (hb kV doc pm an cdv ct) fun A outer s H vs Q E hr hsp => by
    obtain ⟨t, h, q⟩ := hbody cdv A outer s H vs Q E hr hsp
    exact ⟨t, h.nox, q⟩
structure FunK (K : PySem.W.Frag) (x qual : Str) (st : Stmt) (D f : Addr) (fd : FuncData) : Prop where
  ex : ∃ (oc : Value) (od : Option Addr) (doc pm : Value) (an : Option Addr) (cdv ct : Value) (osl : Array (Option Value)),
    fd = PySem.W.fnOf x qual (defArgs st) (defBody st) (defScope st) .none (.ref D) doc pm an cdv ct ∧ K.lookup f = some ⟨oc, od, .func fd, osl⟩ ∧ PySem.W.codeIn K cdv qual = true
theorem funK_mk {oc : Value} {od an : Option Addr} {osl : Array (Option Value)} {doc pm cdv ct : Value} (l : K.lookup f = some ⟨oc, od, .func (PySem.W.fnOf x qual (defArgs st) (defBody st) (defScope st) .none (.ref D) doc pm an cdv ct), osl⟩)
    (c : PySem.W.codeIn K cdv qual = true) : FunK K x qual st D f (PySem.W.fnOf x qual (defArgs st) (defBody st) (defScope st) .none (.ref D) doc pm an cdv ct) := ⟨⟨oc, od, doc, pm, an, cdv, ct, osl, rfl, l, c⟩⟩
theorem fun_starK (F : FunK K x qual st D f fd) (hD : PySem.W.nsIn K D kw = some (some du)) (rD : RelV dv du) (S : FnScope N (ps ++ [kw, pv]) (defScope st)) (hb : BindSK x qual st ps kw pv)
    (hbody : ∀ (cdv : Value) (A : Around) (outer : List Env) (s : Shared) (H : Hp) (vs : List V) (Q : VK) (E : XK), Room k (A.deeper (envOfC qual (defScope st) s.heap.objs.size f cdv)) → sp vs H Q E →
      ∃ t, PSs (cxOf CX0 P w K mg base N qual (defScope st) f cdv A outer s H E).nox (defBody st) t ∧ t { nx := fun _ H' => Q .non H', rt := Q } (start N vs) H) :
    FnR P w K mg base CX0 (k + 1) f (fun vs H Q E => ∃ ws rest, vs = ws ++ rest ∧ ws.length = ps.length ∧ rest.length ≤ sizeLine ∧ ∀ p, H p = Option.none → sp (ws ++ [dv, V.ref p]) (upd H p (.tup rest)) Q E) := by
  obtain ⟨oc, od, doc, pm, an, cdv, ct, osl, rfl, lk, hcd⟩ := F.ex
  intro A outer s H us vs Q E hr e0 r hsp
  obtain ⟨ws, rest, ev, hl, hz, hq⟩ := hsp
  subst ev
  obtain ⟨u1, u2, eu, r1, r2⟩ := StX.vals_split r
  subst eu
  have hn : H s.heap.objs.size = Option.none := e0.hok.fresh (Nat.le_refl _)
  have hl1 : u1.length = ps.length := by rw [← r1.length]; exact hl
  have hl2 : u2.length ≤ sizeLine := by rw [← r2.length]; exact hz
  have KX : K.In s.heap := e0.mod.kin.keeps fun b o e => (e0.bs b o e).1
  refine StX.run_bnd lk hcd S hr e0 (G := fun xs H2 => ∃ p, H p = Option.none ∧ xs = ws ++ [dv, V.ref p] ∧ H2 = upd H p (.tup rest)) (fun A' Ex Q' h => ?_) fun s2 H2 xs ⟨p, hp, ex, eH⟩ hr' => ?_
  · obtain ⟨β, γ, k1, k2, k3, a, e1, e2, e3⟩ := hb D doc pm an cdv ct u1 u2 du hl1
    have e4 : (((nsGet D kw >>= k1) >>= k2) >>= k3) = (nsGet D kw >>= fun o => k1 o >>= fun b => k2 b >>= k3) := by rw [bind_assoc, bind_assoc]
    rw [e1, e4]
    refine wpAny_bind ((PySem.W.looks_nsIn KX hD).here ?_)
    show wpAny _ _ (k1 (some du) >>= fun b => k2 b >>= k3) _ _ _
    rw [e2]
    refine wpAny_bind (wpAny_pure ?_)
    rw [e3]
    refine wpAny_bind (wpAny_newTuple (wpAny_pure ?_) hl2)
    have new : ObjOk P w (upd H s.heap.objs.size (.tup rest)) (s.heap.push ({ cls := .type "tuple", data := .seq u2.toArray } : Obj)) s.heap.objs.size (.tup rest) := ⟨hz, u2, r2, ⟨_, Heap.get?_push_size _ rfl, rfl, _, rfl⟩⟩
    have un := StX.un_laid (fs := frs outer) (s := s) (o := ({ cls := .type "tuple", data := .seq u2.toArray } : Obj)) (u := .tup rest) hn
    have z := h _ _ (ws ++ [dv, V.ref s.heap.objs.size]) (u1 ++ [du, Value.ref s.heap.objs.size]) (StX.env0_laid e0 new) un rfl (fun e s' z => z) (r1.append (.cons rD (.cons rfl .nil)))
      (by rw [List.length_append, List.length_append, hl] <;> rfl) ⟨_, hn, rfl, rfl⟩
    rw [List.zip_append hl1.symm] at z
    exact z
  · subst ex eH
    obtain ⟨t, h, q⟩ := hbody cdv A outer s2 _ _ Q E hr' (hq p hp)
    exact ⟨t, h.nox, q⟩
open Evl in
/-- .. its promise of what it is called with -/
theorem starK {α : Type} {pre pre' : α → List Dt → Mm → Prop} {post : α → Mm → Dt → Mm → Prop} {n : Nat} {vs : List V} {H1 : Hp} {Q : VK} {E : XK} {dd : Dt} (rd : ∀ H, Rp K H dv dd) (hp : ∀ x ds M, pre' x ds M → ∃ hd tl, ds = hd ++ tl ∧ hd.length = n ∧ tl.length ≤ sizeLine ∧ pre x (hd ++ [dd, .tup tl]) M)
    (h : SpD K pre' post vs H1 Q E) : ∃ ws rest, vs = ws ++ rest ∧ ws.length = n ∧ rest.length ≤ sizeLine ∧ ∀ p, H1 p = Option.none → SpD K pre post (ws ++ [dv, V.ref p]) (upd H1 p (.tup rest)) Q E := by
  obtain ⟨x, B, H, M, ds, o, r, hpre, q⟩ := h
  obtain ⟨hd, tl, rfl, h1, h2, h3⟩ := hp x ds M hpre
  refine ⟨vs.take n, vs.drop n, (List.take_append_drop n vs).symm, ?_, ?_, fun p hpn => ?_⟩
  · have e := r.length
    rw [List.length_append] at e
    rw [List.length_take]
    omega
  · have e := r.length
    rw [List.length_append] at e
    rw [List.length_drop]
    omega
  · have r1 := r.take n
    have r2 := r.drop n
    rw [List.take_left' h1] at r1
    rw [List.drop_left' h1] at r2
    have e1 := Ex.new (o := .tup (vs.drop n)) (fresh_back o.h hpn)
    exact ⟨x, B, _, M, _, o.grow hpn, (r1.mono e1).append (.cons (rd _) (.one (.tup (st_of upd_same) (r2.mono e1)))), h3, fun v d M' H' H2 z k e r => q v d M' H' H2 z k (e1.trans e) r⟩
end
end Wk
/-! ## WkM -/
/-! Polygons as lists of points: what is computed. -/
namespace Wk
open PySem L2 Evl
/-- each point's next one -/
def rot {α : Type} (ps : List α) : List α := ps.drop 1 ++ ps.take 1
theorem rot_length {α : Type} (ps : List α) : (rot ps).length = ps.length := by
  unfold rot
  rw [List.length_append, List.length_drop, List.length_take]
  omega
theorem rot_map {α β : Type} (f : α → β) (ps : List α) : (rot ps).map f = rot (ps.map f) := by
  unfold rot
  rw [List.map_append, List.map_drop, List.map_take]
theorem cutD_length (xs : List Dt) (lo hi : Option Int) : (cutD xs lo hi).length ≤ xs.length := by
  unfold cutD
  rw [List.length_take, List.length_drop]
  omega
theorem sIx_one {n d : Nat} : HT.sIx n d (some 1) = min 1 n := by
  have h := HT.sIx_nat n d 1
  exact h
theorem sIx_none {n d : Nat} : HT.sIx n d none = d := rfl
theorem cutD_from1 (xs : List Dt) : cutD xs (some 1) none = xs.drop 1 := by
  unfold cutD
  rw [sIx_one, sIx_none]
  by_cases h : xs.length = 0
  · have e : xs = [] := List.length_eq_zero_iff.mp h
    subst e
    rfl
  · have e : min 1 xs.length = 1 := by omega
    rw [e, List.take_of_length_le (by rw [List.length_drop]; exact Nat.le_refl _)]
theorem cutD_to1 (xs : List Dt) : cutD xs none (some 1) = xs.take 1 := by
  unfold cutD
  rw [sIx_one, sIx_none, List.drop_zero, Nat.sub_zero]
  by_cases h : xs.length = 0
  · have e : xs = [] := List.length_eq_zero_iff.mp h
    subst e
    rfl
  · have e : min 1 xs.length = 1 := by omega
    rw [e]
theorem cutD_rot (xs : List Dt) : cutD xs (some 1) none ++ cutD xs none (some 1) = rot xs := by
  rw [cutD_from1, cutD_to1] <;> rfl
def addP (a b : Pt) : Pt := (a.1 + b.1, a.2 + b.2)
def subP (a b : Pt) : Pt := (a.1 - b.1, a.2 - b.2)
def crossP (a b : Pt) : Int := a.1 * b.2 - a.2 * b.1
def ptD (ps : List Pt) (i : Nat) : Pt := ps.getD i (0, 0)
def nxt (n i : Nat) : Nat := (i + 1) % n
def prv (n i : Nat) : Nat := (i + n - 1) % n
def flip1 (ps : List Pt) (j : Nat) : List Pt := ps.set j (subP (addP (ptD ps (prv ps.length j)) (ptD ps (nxt ps.length j))) (ptD ps j))
def flips (ps : List Pt) (js : List Int) : List Pt := js.foldl (fun ps j => flip1 ps j.toNat) ps
def sticksP (ps : List Pt) : List Pt := (ps.zip (rot ps)).map fun q => subP q.2 q.1
def areaP (ps : List Pt) : Int := ((ps.zip (rot ps)).map fun q => crossP q.1 q.2).sum
theorem flip1_length {ps : List Pt} {j : Nat} : (flip1 ps j).length = ps.length := by
  unfold flip1
  rw [List.length_set]
theorem flips_length {js : List Int} : ∀ {ps : List Pt}, (flips ps js).length = ps.length := by
  induction js with
  | nil => exact rfl
  | cons j js ih =>
    intro ps
    show (flips (flip1 ps j.toNat) js).length = ps.length
    rw [ih, flip1_length]
theorem pairD_get {ps qs : List Pt} {i : Nat} {d : Dt} (h : (pairD (ps.map P2) (qs.map P2))[i]? = some d) : ∃ p q, ps[i]? = some p ∧ qs[i]? = some q ∧ d = .tup [P2 p, P2 q] := by
  unfold pairD at h
  rw [List.getElem?_zipWith, List.getElem?_map, List.getElem?_map] at h
  cases e : ps[i]? with
  | none =>
    rw [e] at h
    cases h
  | some p =>
    cases e2 : qs[i]? with
    | none =>
      rw [e, e2] at h
      cases h
    | some q =>
      rw [e, e2] at h
      exact ⟨p, q, rfl, rfl, (Option.some.inj h).symm⟩
theorem pairD_length {ps qs : List Pt} : (pairD (ps.map P2) (qs.map P2)).length = min ps.length qs.length := by
  unfold pairD
  rw [List.length_zipWith, List.length_map, List.length_map]

/-! a comprehension whose items change nothing -/
section
variable {K : PySem.W.Frag} {ρ : Rho} {M : Mm} {Φ : Dt → Mm → Prop} {te : TE} {wi : TI} {g : TG}
theorem ex_lcm {vs : List Nat} (hw : GWipe g vs) (h : IX K wi ρ M (fun ys G M1 => ys.length < sizeLine ∧ G M1 ∧ ∃ zs : List Dt, zs.length = ys.length ∧
    (∀ (i : Nat) d z, ys[i]? = some d → zs[i]? = some z → GX K g d (wipeR ρ vs) M1 (fun ρ2 M2 => EX K te ρ2 M2 (fun y M4 => y = z ∧ M4 = M1))) ∧ Φ (.lst zs) M1)) : EX K (tLc wi g tYes te vs) ρ M Φ := by
  refine ex_lc hw fun B H H1 σ o s R q => h B H H1 σ o s R fun J ys G M' H' H2 z k e w => q J ys G M' H' H2 ?_ k e w
  obtain ⟨hz, hG, zs, hl, hs, hk⟩ := z
  refine ⟨hz, fun i acc M2 => M2 = M' ∧ acc = zs.take i, ⟨rfl, rfl⟩, fun i acc M2 _ hI => by rw [hI.1]; exact hG, fun i d acc M2 hi hI hal => ?_, fun acc M2 hI hal => ?_⟩
  · obtain ⟨rfl, rfl⟩ := hI
    have hlt := (List.getElem?_eq_some_iff.mp hi).1
    have hlt2 : i < zs.length := by omega
    have q2 := hs i d zs[i] hi (List.getElem?_eq_getElem hlt2)
    intro B3 H3 H4 σ3 v3 o3 s3 r3 Q3 h3
    refine q2 B3 H3 H4 σ3 v3 o3 s3 r3 Q3 fun ρ2 M2 σ2 H5 H6 z2 k2 s2 e2 => h3 ρ2 M2 σ2 H5 H6 ?_ k2 s2 e2
    refine tx_yes ⟨fun _ => z2.mono fun y M4 hy => ?_, fun hc => by cases hc⟩
    obtain ⟨rfl, rfl⟩ := hy
    exact ⟨rfl, by rw [List.take_succ_eq_append_getElem hlt2]⟩
  · obtain ⟨rfl, rfl⟩ := hI
    rw [List.take_of_length_le (by omega)]
    exact hk
end
theorem sticksP_length {ps : List Pt} : (sticksP ps).length = ps.length := by
  unfold sticksP
  rw [List.length_map, List.length_zip, rot_length, Nat.min_self]
theorem sticksP_get {ps : List Pt} {i : Nat} {p q : Pt} (hp : ps[i]? = some p) (hq : (rot ps)[i]? = some q) : (sticksP ps)[i]? = some (subP q p) := by
  unfold sticksP
  rw [List.getElem?_map, List.getElem?_zip_eq_some (z := (p, q)) |>.mpr ⟨hp, hq⟩] <;> rfl
theorem plain_p2 (p : Pt) : plain 59 (P2 p) = true := rfl
theorem plain_p2' (p : Pt) : plain 60 (P2 p) = true := rfl
theorem plains_pts : ∀ ps : List Pt, plains 59 (ps.map P2) = true
  | [] => rfl
  | p :: ps => by
    rw [List.map_cons, plains, plain_p2, plains_pts ps] <;> rfl
theorem plain_pts (ps : List Pt) : plain 60 (Pts ps) = true := by
  show plain 60 (.tup (ps.map P2)) = true
  rw [plain, plains_pts] <;> rfl
theorem eqv_p2 (p q : Pt) : PyData.eqv (toP (P2 p)) (toP (P2 q)) = decide (p = q) := by
  show (PyData.eqv (.int p.1) (.int q.1) && (PyData.eqv (.int p.2) (.int q.2) && true)) = _
  show ((p.1 == q.1) && ((p.2 == q.2) && true)) = _
  obtain ⟨a, b⟩ := p
  obtain ⟨c, d⟩ := q
  rw [Bool.and_true]
  by_cases h1 : a = c <;> by_cases h2 : b = d <;> simp [h1, h2]
theorem eqB_p2 (p q : Pt) : eqB (P2 p) (P2 q) = decide (p = q) := eqv_p2 p q
theorem eqvs_pts : ∀ ps qs : List Pt, PyData.eqvAll (toPs (ps.map P2)) (toPs (qs.map P2)) = decide (ps = qs)
  | [], [] => rfl
  | [], q :: qs => rfl
  | p :: ps, [] => rfl
  | p :: ps, q :: qs => by
    show (PyData.eqv (toP (P2 p)) (toP (P2 q)) && PyData.eqvAll (toPs (ps.map P2)) (toPs (qs.map P2))) = _
    rw [eqv_p2, eqvs_pts ps qs]
    by_cases h1 : p = q <;> by_cases h2 : ps = qs <;> simp [h1, h2]
theorem eqB_pts (ps qs : List Pt) : eqB (Pts ps) (Pts qs) = decide (ps = qs) := by
  have h := eqvs_pts ps qs
  exact h

def crossesP (ps : List Pt) : List Int := (ps.zip (rot ps)).map fun q => crossP q.1 q.2
theorem crossesP_length {ps : List Pt} : (crossesP ps).length = ps.length := by
  unfold crossesP
  rw [List.length_map, List.length_zip, rot_length, Nat.min_self]
theorem crossesP_get {ps : List Pt} {i : Nat} {p q : Pt} (hp : ps[i]? = some p) (hq : (rot ps)[i]? = some q) : (crossesP ps)[i]? = some (crossP p q) := by
  unfold crossesP
  rw [List.getElem?_map, List.getElem?_zip_eq_some (z := (p, q)) |>.mpr ⟨hp, hq⟩] <;> rfl
theorem addP_map_get {ps : List Pt} {v : Pt} {i : Nat} {p : Pt} (hp : ps[i]? = some p) : (ps.map fun p => addP p v)[i]? = some (addP p v) := by
  rw [List.getElem?_map, hp] <;> rfl
theorem ptD_get {ps : List Pt} {i : Nat} (h : i < ps.length) : ps[i]? = some (ptD ps i) := by
  unfold ptD
  rw [List.getD_eq_getElem?_getD, List.getElem?_eq_getElem h] <;> rfl
theorem pts_get {ps : List Pt} {i : Nat} (h : i < ps.length) : (ps.map P2)[i]? = some (P2 (ptD ps i)) := by
  rw [List.getElem?_map, ptD_get h] <;> rfl
theorem flips_snoc {ps : List Pt} {js : List Int} {j : Int} : flips ps (js ++ [j]) = flip1 (flips ps js) j.toNat := by
  unfold flips
  rw [List.foldl_append] <;> rfl

theorem nxt_lt {n i : Nat} (h : 0 < n) : nxt n i < n := Nat.mod_lt _ h
theorem prv_lt {n i : Nat} (h : 0 < n) : prv n i < n := Nat.mod_lt _ h
theorem nxt_int {n i : Nat} : ((i : Int) + 1) % (n : Int) = ((nxt n i : Nat) : Int) := by
  unfold nxt
  rw [Int.natCast_emod]
  rfl
theorem atI_pt {qs : List Pt} {j : Nat} (h : j < qs.length) : atI (qs.map P2) (j : Int) = some (P2 (ptD qs j)) := atI_at (pts_get h)
theorem atI_prv {qs : List Pt} {j : Nat} (h : j < qs.length) : atI (qs.map P2) ((j : Int) - 1) = some (P2 (ptD qs (prv qs.length j))) := by
  have hn : 0 < qs.length := by omega
  unfold prv
  by_cases h0 : j = 0
  · subst h0
    have e : (0 + qs.length - 1) % qs.length = qs.length - 1 := by rw [Nat.zero_add]; exact Nat.mod_eq_of_lt (by omega)
    rw [e]
    refine atI_last (v := P2 (ptD qs (qs.length - 1))) ?_ (fun e => by rw [List.map_eq_nil_iff] at e; rw [e] at hn; exact absurd hn (by decide))
    rw [List.length_map]
    exact pts_get (by omega)
  · have e : (j + qs.length - 1) % qs.length = j - 1 := by
      rw [show j + qs.length - 1 = (j - 1) + qs.length by omega, Nat.add_mod_right]
      exact Nat.mod_eq_of_lt (by omega)
    rw [e, show ((j : Int) - 1) = ((j - 1 : Nat) : Int) by omega]
    exact atI_pt (by omega)

theorem cutD_init (xs : List Dt) : cutD xs none (some (-1)) = xs.dropLast := by
  unfold cutD
  rw [sIx_none, List.drop_zero, Nat.sub_zero, List.dropLast_eq_take]
  congr 1
  unfold HT.sIx
  dsimp only
  rw [if_pos (by decide)]
  omega
theorem Bd.nil {B : Int} : Bd B [] := fun p hp => by cases hp
theorem Bd.cons {B : Int} {p : Pt} {ps : List Pt} (h : -B ≤ p.1 ∧ p.1 ≤ B ∧ -B ≤ p.2 ∧ p.2 ≤ B) (r : Bd B ps) : Bd B (p :: ps) := fun q hq => by
  rcases List.mem_cons.mp hq with e | e
  · rw [e]
    exact h
  · exact r q e
theorem Bd.append {B : Int} {ps qs : List Pt} (h : Bd B ps) (r : Bd B qs) : Bd B (ps ++ qs) := fun q hq => by
  rcases List.mem_append.mp hq with e | e
  · exact h q e
  · exact r q e
theorem Bd.one {B : Int} {p : Pt} (h : -B ≤ p.1 ∧ p.1 ≤ B ∧ -B ≤ p.2 ∧ p.2 ≤ B) : Bd B [p] := Bd.cons h Bd.nil
theorem sum_bd {B : Int} : ∀ {ns : List Int}, (∀ n ∈ ns, -B ≤ n ∧ n ≤ B) → -(B * ns.length) ≤ ns.sum ∧ ns.sum ≤ B * ns.length
  | [], _ => by simp
  | n :: ns, h => by
    have q := sum_bd (ns := ns) fun m hm => h m (List.mem_cons_of_mem _ hm)
    have q2 := h n List.mem_cons_self
    rw [List.sum_cons, List.length_cons]
    have e : B * ((ns.length + 1 : Nat) : Int) = B * (ns.length : Int) + B := by
      rw [Int.natCast_add, Int.mul_add]
      omega
    rw [e]
    omega
/-- one number drawn -/
theorem ex_draw {K : PySem.W.Frag} {ρ : Rho} {M : Mm} {Φ : Dt → Mm → Prop} {t : TA} {E : XK} {a : Addr} {b n : Int} {sp : Sp} (e : sp = SpD K (fun (x : Addr × Int × Int) ds M => ds = [.raw (.ref x.1), .int x.2.1] ∧ (∃ c, M x.1 = some c ∧ IsSrc x.2.2 c) ∧ 0 < x.2.1 ∧ x.2.1 < 2 ^ 4000 ∧ x.2.2 ≤ 2 ^ 40)
    (fun x M d M' => ∃ r c', d = .int r ∧ 0 ≤ r ∧ r < x.2.1 ∧ M' = put M x.1 c' ∧ IsSrc (x.2.2 + 1) c')) (h : ∃ c, M a = some c ∧ IsSrc n c) (hb : 0 < b) (hb2 : b < 2 ^ 100) (hn : n ≤ 2 ^ 40) (ht : AX K t ρ M (fun ds M1 => ds = [.raw (.ref a), .int b] ∧ M1 = M))
    (k : ∀ r c', 0 ≤ r → r < b → IsSrc (n + 1) c' → Φ (.int r) (put M a c')) : EX K (tCall sp [] E t) ρ M Φ := by
  subst e
  refine ex_call fun B H H1 σ o s Q q => ht B H H1 σ o s Q fun vs ds M' H' H2 z => q vs ds M' H' H2 ?_
  obtain ⟨rfl, rfl⟩ := z
  have b4 : (2 : Int) ^ 100 < 2 ^ 4000 := by decide +kernel
  refine ⟨(a, b, n), ⟨rfl, h, hb, Int.lt_trans hb2 b4, hn⟩, ?_⟩
  rintro d M2 ⟨r, c', rfl, h0, h1, rfl, hc⟩
  exact k r c' h0 h1 hc

theorem atI_lst {qs : List Pt} (h : 0 < qs.length) : atI (qs.map P2) (-1) = some (P2 (ptD qs (qs.length - 1))) := by
  refine atI_last (v := P2 (ptD qs (qs.length - 1))) ?_ (fun e => by rw [List.map_eq_nil_iff] at e; rw [e] at h; exact absurd h (by decide))
  rw [List.length_map]
  exact pts_get (by omega)
theorem ptD_mem {qs : List Pt} {i : Nat} (h : i < qs.length) : ptD qs i ∈ qs := List.mem_of_getElem? (ptD_get h)

theorem put_swap {M : Mm} {a b : Addr} {x y : Cell} (h : a ≠ b) : put (put M a x) b y = put (put M b y) a x := by
  funext c
  by_cases h1 : c = a
  · subst h1
    rw [put_ne h, put_same, put_same]
  · by_cases h2 : c = b
    · subst h2
      rw [put_same, put_ne h1, put_same]
    · rw [put_ne h2, put_ne h1, put_ne h1, put_ne h2]
theorem put_under {M : Mm} {a b : Addr} {x y z : Cell} (h : a ≠ b) : put (put (put M a x) b y) a z = put (put M a z) b y := by
  rw [put_swap h, put_put, ← put_swap h]

/-! rules that name K, for a comprehension's own block -/
section
variable {X : Cx} (K : PySem.W.Frag)
theorem pg_tupK (n : Nat) {es : List Expr} {k : Nat} {t : TGs} {pos : Pos} (hc : X.calm = true) (h : PGs X es t) (e : X.K = K) (hn : (assignEach es X.env).length = n := by rfl) (hst : (assignEach es X.env).findIdx? (·.1) = none := by rfl) : PG X (.Tuple es k pos) (gTup K n t) := by
  subst e
  exact pg_tup hc h hn hst
theorem op_addK (e : X.K = K) : OpR X (binaryOp .Add) (rAddA K) := by subst e; exact op_addA
theorem op_mulK (e : X.K = K) : OpR X (binaryOp .Mult) (rMulA K) := by subst e; exact op_mulA
theorem op_eqK (e : X.K = K) (hu : X.A.units + 64 < cLine) : OpR X (compareOp .Eq) (rEqA K) := by subst e; exact op_eqA hu
theorem op_neK (e : X.K = K) (hu : X.A.units + 64 < cLine) : OpR X (compareOp .NotEq) (rNeA K) := by subst e; exact op_neA hu
theorem ix_seqK (e : X.K = K) : IxR X (rIx K) := by subst e; exact ix_seq
theorem sl_anyK (e : X.K = K) : SlR X (rSlAny K) := by subst e; exact sl_any
theorem call_lenK (e : X.K = K) : CallR X (.builtin "len") (rLenA K) := by subst e; exact call_lenA
theorem pe_fldK {e : Expr} {f : Str} {pos : Pos} {ta : TE} (h : X.K = K) (he : PE X e ta) (hb : attributeBase e f X.env (eval e X.env) = eval e X.env) : PE X (.Attribute e f pos) (tFld K ta f) := by subst h; exact pe_fld he hb
end
end Wk
/-! ## WkQ -/
/-! What is shown: repr, str, {..} of data, by own classes; defs that show. -/
namespace Wk
open PySem PySem.Spec PyProof.Rows L2
/-- a def's promise where nothing is being shown -/
def FnG (P : Program) (w : World) (K : PySem.W.Frag) (mg : Str → Option Value) (base : Heap) (CX : CXT) (k : Nat) (f : Addr) (sp : Sp) : Prop :=
  ∀ (A : Around) (outer : List Env) (s : Shared) (H : Hp) (us : List Value) (vs : List V) (Q : VK) (E : XK), Room k A → A.guards = some [] → Env0 P w K mg base A outer s H → Vals vs us → sp vs H Q E →
    codeAny (model P w) A (.call (.ref f) ⟨us, []⟩) (CR CX outer P w H s Q E) s
section
variable {P : Program} {w : World} {K : PySem.W.Frag} {mg : Str → Option Value} {base : Heap} {CX : CXT} {j k : Nat} {f : Addr} {sp sp' : Sp}
theorem _root_.L2.FnR.g (F : FnR P w K mg base CX k f sp) : FnG P w K mg base CX k f sp := fun A outer s H us vs Q E hr _ => F A outer s H us vs Q E hr
theorem FnG.mono (F : FnG P w K mg base CX j f sp) (h : j ≤ k) : FnG P w K mg base CX k f sp := fun A outer s H us vs Q E hr => F A outer s H us vs Q E (hr.mono h)
theorem FnG.imp (F : FnG P w K mg base CX k f sp) (h : ∀ vs H Q E, sp' vs H Q E → sp vs H Q E) : FnG P w K mg base CX k f sp' := fun A outer s H us vs Q E hr hg e0 r hs => F A outer s H us vs Q E hr hg e0 r (h _ _ _ _ hs)
theorem bnd_pure {fd : FuncData} {ps : List Str} {us : List Value} {vs : List V} {A : Around} {outer : List Env} {s : Shared} {H : Hp} {E : XK} (hb : bindArgs fd ⟨us, []⟩ = pure (ps.zip us)) (e0 : Env0 P w K mg base A outer s H) (r : Vals vs us) (hl : vs.length = ps.length) :
    StX.Bnd CX P w K mg base fd ⟨us, []⟩ ps A outer s H E (fun xs H2 => xs = vs ∧ H2 = H) := fun A' Ex Q h => by
  rw [hb]
  exact wpAny_pure (h s H vs us e0 Un.refl rfl (fun e s' z => z) r hl ⟨rfl, rfl⟩)
/-- how a def without defaults binds -/
def BindP (x qual : Str) (st : Stmt) (ps : List Str) : Prop := ∀ (kV doc pm : Value) (an : Option Addr) (cdv ct : Value) (us : List Value), us.length = ps.length → bindArgs (PySem.W.fnOf x qual (defArgs st) (defBody st) (defScope st) .none kV doc pm an cdv ct) ⟨us, []⟩ = pure (ps.zip us)
theorem fun_okGX {x qual : Str} {st : Stmt} {fd : FuncData} {N ps : List Str} (F : Fun K x qual st f fd) (S : FnScope N ps (defScope st)) (hb : BindP x qual st ps) (len : ∀ vs H Q E, sp vs H Q E → vs.length = ps.length)
    (hbody : ∀ (cdv : Value) (A : Around) (outer : List Env) (s : Shared) (H : Hp) (vs : List V) (Q : VK) (E : XK), Room k (A.deeper (envOfC qual (defScope st) s.heap.objs.size f cdv)) → A.guards = some [] → sp vs H Q E →
      ∃ t, PSs (cxOf CX P w K mg base N qual (defScope st) f cdv A outer s H E) (defBody st) t ∧ t { nx := fun _ H' => Q .non H', rt := Q } (start N vs) H) : FnG P w K mg base CX (k + 1) f sp := by
  obtain ⟨oc, od, kV, doc, pm, an, cdv, ct, osl, rfl, lk, hcd⟩ := F.ex
  intro A outer s H us vs Q E hr hg e0 r hsp
  have hl := len vs H Q E hsp
  refine StX.run_bnd lk hcd S hr e0 (bnd_pure (hb kV doc pm an cdv ct us (by rw [← r.length]; exact hl)) e0 r hl) fun s2 H2 xs ⟨ex, eH⟩ hr' => ?_
  subst ex eH
  exact hbody cdv A outer s2 _ _ Q E hr' hg hsp
theorem fun_okG {x qual : Str} {st : Stmt} {fd : FuncData} {N ps : List Str} (F : Fun K x qual st f fd) (S : FnScope N ps (defScope st)) (hb : BindP x qual st ps) (len : ∀ vs H Q E, sp vs H Q E → vs.length = ps.length)
    (hbody : ∀ (cdv : Value) (A : Around) (outer : List Env) (s : Shared) (H : Hp) (vs : List V) (Q : VK) (E : XK), Room k (A.deeper (envOfC qual (defScope st) s.heap.objs.size f cdv)) → A.guards = some [] → sp vs H Q E →
      ∃ t, PSs (cxOf CX0 P w K mg base N qual (defScope st) f cdv A outer s H E).nox (defBody st) t ∧ t { nx := fun _ H' => Q .non H', rt := Q } (start N vs) H) : FnG P w K mg base CX0 (k + 1) f sp :=
  fun_okGX F S hb len fun cdv A outer s H vs Q E hr hg hsp => by
    obtain ⟨t, h, q⟩ := hbody cdv A outer s H vs Q E hr hg hsp
    exact ⟨t, h.nox, q⟩
end
section
variable {X : Cx} {pins : List (Addr × Obj)} {σ : L2.St} {H : Hp} {s : Shared} {CX : CXT} {j k : Nat} {f C : Addr} {sp : Sp} {E : XK}
theorem run_fnG {Q : VK} {us : List Value} {vs : List V} (F : FnG X.prog X.w X.K X.mg X.base CX k f sp) (hr : Room k X.A) (hg : X.A.guards = some []) (hx : Passes CX X E) (I : Inv X pins σ H s) (r : Vals vs us) (h : sp vs H Q E) :
    wpAny (model X.prog X.w) X.A (call (.ref f) us) (EP X pins σ Q) X.xe s := by
  refine wpAny_call (codeAny_mono (F X.A X.stack s H us vs Q E hr hg I.env0 r h) fun r s' hq => ?_)
  cases r with
  | error e => exact hx pins σ H s e s' I hq
  | ok fl =>
    cases fl with
    | ret u => exact I.after hq
    | next => exact False.elim hq
    | brk => exact False.elim hq
    | cont => exact False.elim hq
structure CalG (P : Program) (w : World) (K : PySem.W.Frag) (mg : Str → Option Value) (base : Heap) (k : Nat) (x : Str) (sp : Sp) : Prop where
  ex : ∃ f, FnG P w K mg base CX0 k f sp ∧ mg x = some (.ref f) ∧ PySem.W.keepIn K (.ref f) = true
theorem pe_cG {x : Str} {p pos : Pos} {e : Expr} {es : List Expr} {t : TA} (c : CalG X.prog X.w X.K X.mg X.base k x sp) (hr : Room j X.A) (hgd : X.A.guards = some []) (hk : k ≤ j) (hg : Gl X x) (ha : PA X (e :: es) t)
    (hdb : (x == ("__debug__" : Str)) = false := by decide) (he : starEach (e :: es) X.env = (false, eval e X.env) :: starEach es X.env := by rfl) (hpl : (backTo pos (starEach es X.env)).any (·.1) = false := by rfl) :
    PE X (.Call (.Name x p) (e :: es) [] pos) (tCall sp [] E0 t) := by
  obtain ⟨f, F, hm, kp⟩ := c.ex
  refine ⟨fun pins s σ H Q I h => ?_⟩
  refine wpAny_Call_Name_kw (ld_glob I hg hm ?_ hdb)
  refine PySem.W.callWith_K (h₀ := X.base) I.ok.mod.kin kp (thn (ha.run pos pins s σ H _ I h) fun us s1 ⟨vs, H1, I1, r, q⟩ => ⟨I1.kIn, ?_⟩) he hpl
  have q' : sp (vs ++ []) H1 Q E0 := q
  rw [List.append_nil] at q'
  exact run_fnG F (hr.mono hk) hgd pass0 I1 r q'
/-! data shown -/
/-- shown as text -/
def rShow (K : PySem.W.Frag) : List V → Hp → VK → Prop := fun xs H Q => ∃ v d, xs = [v] ∧ Dp K H v d ∧ d.showable = true ∧ d.hasDict = false ∧ d.depth ≤ 100 ∧ d.shown.length ≤ sizeLine ∧ Q (.str d.shown) H
theorem call_reprD (hr : Room k X.A) (hg : X.A.guards = some []) : CallR X (.builtin "repr") (rShow X.K) := by
  intro pins s σ H xs us Q I r h
  obtain ⟨v, d, ex, hd, h1, h2, h3, h4, q⟩ := h
  subst ex
  obtain ⟨u, rfl, ru⟩ := vals1 r
  obtain ⟨as, rd⟩ := Dp.reads I d v u hd ru
  have hu := hr.units
  have hu2 := hr.un
  cases rd with
  | none =>
    simp only [PyData.shown] at q
    exact PySem.P.repr_of_none ⟨.str _, H, I.tok _, ⟨_, rfl⟩, q⟩
  | bool b =>
    simp only [PyData.shown] at q
    refine PySem.P.repr_of_bool ⟨.str (if b then "True" else "False"), H, I.tok _, ⟨s.toks, ?_⟩, q⟩
    cases b <;> rfl
  | int i t =>
    simp only [PyData.shown] at q
    exact PySem.P.repr_of_int (by simpa [PyData.showable] using h1) ⟨.str _, H, I.tok _, ⟨_, rfl⟩, q⟩
  | str x t =>
    simp only [PyData.shown] at q h4
    exact PySem.P.repr_of_str ⟨.str _, H, I.tok _, ⟨_, rfl⟩, q⟩ h4
  | list e1 e2 e3 e4 => exact repr_of_reads' (.list e1 e2 e3 e4) h1 (PyData.noDict_hsm h2) hg (by omega) (fun _ _ e => e) (fun h' u tk hk => ⟨.str _, H, I.kept hk, ⟨_, rfl⟩, q⟩) h4
  | tuple e1 e2 e3 e4 => exact repr_of_reads' (.tuple e1 e2 e3 e4) h1 (PyData.noDict_hsm h2) hg (by omega) (fun _ _ e => e) (fun h' u tk hk => ⟨.str _, H, I.kept hk, ⟨_, rfl⟩, q⟩) h4
  | dict e1 e2 e3 e4 e5 => exact absurd h2 (by simp [PyData.hasDict])
/-- str(list or tuple) -/
def rShowR (K : PySem.W.Frag) : List V → Hp → VK → Prop := fun xs H Q => ∃ a d, xs = [.ref a] ∧ Dp K H (.ref a) d ∧ d.showable = true ∧ d.hasDict = false ∧ d.depth ≤ 100 ∧ d.shown.length ≤ sizeLine ∧ Q (.str d.shown) H
theorem call_strD (hr : Room k X.A) (hg : X.A.guards = some []) : CallR X (.type "str") (rShowR X.K) := by
  intro pins s σ H xs us Q I r h
  obtain ⟨a, d, ex, hd, h1, h2, h3, h4, q⟩ := h
  subst ex
  obtain ⟨u, rfl, ru⟩ := vals1 r
  obtain ⟨as, rd⟩ := Dp.reads I d _ u hd ru
  cases ru
  have hu := hr.units
  have hu2 := hr.un
  exact str_of_reads rd h1 (PyData.noDict_hsm h2) hg (by omega) (fun _ _ e => e) (fun h' u tk hk => ⟨.str _, H, I.kept hk, ⟨_, rfl⟩, q⟩) h4
def tFmtD (K : PySem.W.Frag) (te : TE) : TE := fun σ H Q => te σ H fun x H1 => ∃ a d, x = .ref a ∧ Dp K H1 (.ref a) d ∧ d.showable = true ∧ d.hasDict = false ∧ d.depth ≤ 100 ∧ d.shown.length ≤ sizeLine ∧ Q (.str d.shown) H1
theorem pe_fmtD {e : Expr} {te : TE} {pos : Pos} (hr : Room k X.A) (hg : X.A.guards = some []) (he : PE X e te) : PE X (.FormattedValue e (-1) none pos) (tFmtD X.K te) := by
  refine ⟨fun pins s σ H Q I h => ?_⟩
  refine wpAny_FormattedValue_plain (thn (he.run pins s σ H _ I h) fun v s1 hv => ?_)
  obtain ⟨x, H1, I1, r1, a, d, ex, hd, h1, h2, h3, h4, q⟩ := hv
  subst ex
  obtain ⟨as, rd⟩ := Dp.reads I1 d _ v hd r1
  cases r1
  have hu := hr.units
  have hu2 := hr.un
  exact formatField_of_reads rd h1 (PyData.noDict_hsm h2) hg (by omega) (fun _ _ e => e) (fun h' u tk hk => ⟨.str _, H1, I1.kept hk, ⟨_, rfl⟩, q⟩) h4
/-! own __repr__, own __str__ -/
def rOwnS (C : Addr) (sp : Sp) (E : XK) : List V → Hp → VK → Prop := fun xs H Q => ∃ a dx fs, xs = [.ref a] ∧ H a = some (.ins C dx fs) ∧ sp [.ref a] H (fun v H' => ∃ y, v = .str y ∧ Q (.str y) H') E
structure RprG (P : Program) (w : World) (K : PySem.W.Frag) (mg : Str → Option Value) (base : Heap) (k : Nat) (C : Addr) (sp : Sp) : Prop where
  ex : ∃ f, PySem.W.findIn K (.ref C) "__repr__" = some (some (.ref f)) ∧ PySem.W.isFn K (.ref f) = true ∧ FnG P w K mg base CX0 k f sp
structure StrG (P : Program) (w : World) (K : PySem.W.Frag) (mg : Str → Option Value) (base : Heap) (k : Nat) (C : Addr) (sp : Sp) : Prop where
  fm : PySem.W.findIn K (.ref C) "__format__" = some (some (.builtin "object.__format__"))
  ob : PySem.W.mroIn K C (.type "object") = some true
  ex : ∃ f, PySem.W.findIn K (.ref C) "__str__" = some (some (.ref f)) ∧ PySem.W.isFn K (.ref f) = true ∧ FnG P w K mg base CX0 k f sp
theorem run_own {A : Around} {Q : VK} {a : Addr} (F : FnG X.prog X.w X.K X.mg X.base CX0 k f sp) (hr : Room k A) (hg : A.guards = some []) (hf : A.frames = some X.stack) (I : Inv X pins σ H s) (h : sp [.ref a] H (fun v H' => ∃ y, v = .str y ∧ Q (.str y) H') E0) :
    wpAny (model X.prog X.w) A (call (.ref f) [.ref a]) (PySem.W.StrBack fun u s' => EP X pins σ Q u s') X.xe s := by
  have e0 : Env0 X.prog X.w X.K X.mg X.base A X.stack s H := ⟨hf, I.env0.mod, I.env0.bs, I.env0.bsz, I.env0.funs, I.env0.frf, I.env0.hok, I.env0.bare⟩
  refine wpAny_call (codeAny_mono (F A X.stack s H [.ref a] [.ref a] _ E0 hr hg e0 (.cons rfl .nil) h) fun r s' hq => ?_)
  cases r with
  | error e => exact hq.elim
  | ok fl =>
    cases fl with
    | ret u =>
      obtain ⟨v, H1, I1, rv, y, ev, q⟩ := I.after hq
      subst ev
      obtain ⟨t, rfl⟩ := rv
      exact ⟨.str y, H1, I1, ⟨_, rfl⟩, q⟩
    | next => exact False.elim hq
    | brk => exact False.elim hq
    | cont => exact False.elim hq
theorem call_reprO (c : RprG X.prog X.w X.K X.mg X.base k C sp) (hr : Room j X.A) (hg : X.A.guards = some []) (hk : k + 1 ≤ j) : CallR X (.builtin "repr") (rOwnS C sp E0) := by
  intro pins s σ H xs us Q I r h
  obtain ⟨f, o1, o2, F⟩ := c.ex
  obtain ⟨a, dx, fs, ex, ha, hq⟩ := h
  subst ex
  obtain ⟨u, rfl, ru⟩ := vals1 r
  cases ru
  obtain ⟨mA, J, _⟩ := ins_get I.hok ha
  obtain ⟨od, J, _⟩ := J.look
  obtain ⟨m, hF⟩ := I.fr
  have hu := hr.units
  refine PySem.W.repr_K (by show X.A.units + 1 < cLine; omega) hF I.ok.mod.kin J o1 o2 ?_
  exact run_own F ((hr.mono hk).in1) hg I.ok.frames I hq
def tFmtO (C : Addr) (sp : Sp) (E : XK) (te : TE) : TE := fun σ H Q => te σ H fun x H1 => rOwnS C sp E [x] H1 Q
theorem pe_fmtO {e : Expr} {te : TE} {pos : Pos} (c : StrG X.prog X.w X.K X.mg X.base k C sp) (hr : Room j X.A) (hg : X.A.guards = some []) (hk : k + 1 ≤ j) (he : PE X e te) : PE X (.FormattedValue e (-1) none pos) (tFmtO C sp E0 te) := by
  refine ⟨fun pins s σ H Q I h => ?_⟩
  obtain ⟨f, o1, o2, F⟩ := c.ex
  refine wpAny_FormattedValue_plain (thn (he.run pins s σ H _ I h) fun v s1 hv => ?_)
  obtain ⟨x, H1, I1, r1, a, dx, fs, ex, ha, hq⟩ := hv
  cases ex
  cases r1
  obtain ⟨mA, J, _⟩ := ins_get I1.hok ha
  obtain ⟨od, J, _⟩ := J.look
  have hu := hr.units
  refine PySem.W.kfo_fieldS (by show X.A.units + 1 < cLine; omega) I1.kIn J c.fm c.ob o1 o2 ?_
  exact run_own F ((hr.mono hk).in1) hg I1.ok.frames (I1.tok _) hq
end
/-! over data -/
section
open Evl
variable {K : PySem.W.Frag} {ρ : Rho} {M : Mm} {Φ : Dt → Mm → Prop} {te : TE} {C : Addr} {E : XK} {α : Type} {pre : α → List Dt → Mm → Prop} {post : α → Mm → Dt → Mm → Prop}
abbrev shD (d : Dt) : Str := (toP d).shown
/-- d may be shown -/
structure Sh (d : Dt) : Prop where
  pl : plain 60 d = true
  sh : (toP d).showable = true
  sz : (shD d).length ≤ sizeLine
theorem Sh.dp {H : Hp} {v : V} {d : Dt} (h : Sh d) (r : Rp K H v d) : Dp K H v (toP d) ∧ (toP d).showable = true ∧ (toP d).hasDict = false ∧ (toP d).depth ≤ 100 ∧ (toP d).shown.length ≤ sizeLine := by
  have q := shaped_of h.pl
  exact ⟨dp_of r h.pl, h.sh, PyData.hasDict_of_canLay _ q.1, by omega, h.sz⟩
theorem cx_repr {d : Dt} (h : Sh d) (k : Φ (.str (shD d)) M) : CX K (rShow K) [d] M Φ := fun B H H1 vs o r Q q => by
  cases r with
  | cons r rr =>
    cases rr
    obtain ⟨h1, h2, h3, h4, h5⟩ := h.dp (r.mono o.h)
    exact ⟨_, _, rfl, h1, h2, h3, h4, h5, q _ _ _ _ _ k o (Ex.refl H) (.str _)⟩
theorem cx_strD {d : Dt} (h : Sh d) (hr : (∃ xs, d = .tup xs) ∨ ∃ xs, d = .lst xs) (k : Φ (.str (shD d)) M) : CX K (rShowR K) [d] M Φ := fun B H H1 vs o r Q q => by
  cases r with
  | cons r rr =>
    cases rr
    obtain ⟨h1, h2, h3, h4, h5⟩ := h.dp (r.mono o.h)
    rcases hr with ⟨xs, rfl⟩ | ⟨xs, rfl⟩
    · obtain ⟨a, us, rfl, e1, r1⟩ := r.tup_inv
      exact ⟨_, _, rfl, h1, h2, h3, h4, h5, q _ _ _ _ _ k o (Ex.refl H) (.str _)⟩
    · obtain ⟨a, us, rfl, e1, r1⟩ := r.lst_inv
      exact ⟨_, _, rfl, h1, h2, h3, h4, h5, q _ _ _ _ _ k o (Ex.refl H) (.str _)⟩
theorem ex_fmtD (h : EX K te ρ M (fun d M1 => Sh d ∧ (∃ xs, d = .tup xs) ∧ Φ (.str (shD d)) M1)) : EX K (tFmtD K te) ρ M Φ := fun B H H1 σ o s Q q =>
  h B H H1 σ o s _ fun v d M' H' H2 z k e r => by
    obtain ⟨hs, ⟨xs, rfl⟩, z⟩ := z
    obtain ⟨h1, h2, h3, h4, h5⟩ := hs.dp (r.mono k.h)
    obtain ⟨a, us, rfl, e1, r1⟩ := r.tup_inv
    exact ⟨_, _, rfl, h1, h2, h3, h4, h5, q _ _ _ _ _ z k e (.str _)⟩
theorem cx_ownS {fs : List (Str × Dt)} (h : ∃ z, pre z [.obj C fs] M ∧ ∀ d M', post z M d M' → ∃ y, d = .str y ∧ Φ (.str y) M') : CX K (rOwnS C (SpD K pre post) E) [.obj C fs] M Φ := fun B H H1 vs o r Q q => by
  obtain ⟨z, z1, z2⟩ := h
  cases r with
  | cons r rr =>
    cases rr
    obtain ⟨a, dx, us, rfl, h1, r1⟩ := r.obj_inv
    refine ⟨a, dx, us, rfl, o.h _ _ h1, z, B, H, M, _, o, .one r, z1, fun v d M3 H5 H6 hp k3 e3 r3 => ?_⟩
    obtain ⟨y, rfl, z3⟩ := z2 d M3 hp
    exact ⟨y, r3.str_inv, q _ _ _ _ _ z3 k3 e3 (.str _)⟩
theorem ex_fmtO (h : EX K te ρ M (fun d M1 => ∃ fs, d = .obj C fs ∧ ∃ z, pre z [.obj C fs] M1 ∧ ∀ d M', post z M1 d M' → ∃ y, d = .str y ∧ Φ (.str y) M')) : EX K (tFmtO C (SpD K pre post) E te) ρ M Φ := fun B H H1 σ o s Q q =>
  h B H H1 σ o s _ fun v d M' H' H2 ⟨fs, ed, z, z1, z2⟩ k e r => by
    subst ed
    obtain ⟨a, dx, us, rfl, h1, r1⟩ := r.obj_inv
    refine ⟨a, dx, us, rfl, k.h _ _ h1, z, B, H', M', _, k, .one r, z1, fun v d M3 H5 H6 hp k3 e3 r3 => ?_⟩
    obtain ⟨y, rfl, z3⟩ := z2 d M3 hp
    exact ⟨y, r3.str_inv, q _ _ _ _ _ z3 k3 (e.trans e3) (.str _)⟩
end
end Wk
/-! ## WkR -/
/-! Comprehensions with two sources; C(a, ..); own == beside another kind; any; texts of points. -/
namespace Wk
open PySem PySem.Spec PyProof.Rows L2 Evl
section
variable {K : PySem.W.Frag} {B H H' H1 H2 H3 H4 : Hp} {M : Mm} {D : Addr}
theorem ok_aside (k : Ok K B H' H2 M) (hD : H2 D = none) : Ok K (upd B D (.lst [])) H' (upd H2 D (.lst [])) M := by
  have hH : H' D = none := fresh_back k.h hD
  refine ⟨fun a u ea => ?_, fun a u ea => ?_, k.h.trans (Ex.new hD), fun a c ea => ?_⟩
  · by_cases hc : a = D
    · rw [hc] at ea ⊢
      rw [upd_same] at ea ⊢
      exact ea
    · rw [upd_ne hc] at ea ⊢
      exact k.b a u ea
  · by_cases hc : a = D
    · rw [hc]
      exact hH
    · rw [upd_ne hc] at ea
      exact k.bh a u ea
  · obtain ⟨m1, m2, m3⟩ := k.m a c ea
    obtain ⟨u, hu⟩ := m3.there
    have hc : a ≠ D := ne_of_none hu hD
    exact ⟨by rw [upd_ne hc]; exact m1, m2, m3.mono (Ex.refl _) (upd_ne hc)⟩
theorem ok_put {us ws : List V} (k : Ok K (upd B D (.lst us)) H3 H4 M) : Ok K (upd B D (.lst ws)) H3 (upd H4 D (.lst ws)) M := by
  have hD : H3 D = none := k.bh D _ upd_same
  refine ⟨fun a u ea => ?_, fun a u ea => ?_, k.h.mut hD, fun a c ea => ?_⟩
  · by_cases hc : a = D
    · rw [hc] at ea ⊢
      rw [upd_same] at ea ⊢
      exact ea
    · rw [upd_ne hc] at ea ⊢
      exact k.b a u (by rw [upd_ne hc]; exact ea)
  · by_cases hc : a = D
    · rw [hc]
      exact hD
    · rw [upd_ne hc] at ea
      exact k.bh a u (by rw [upd_ne hc]; exact ea)
  · obtain ⟨m1, m2, m3⟩ := k.m a c ea
    have hc : a ≠ D := fun zz => by
      rw [zz, upd_same] at m1
      cases m1
    rw [upd_ne hc] at m1
    exact ⟨by rw [upd_ne hc]; exact m1, m2, m3.mono (Ex.refl _) (upd_ne hc)⟩
theorem ok_back {us : List V} (k : Ok K (upd B D (.lst us)) H3 H4 M) (hB : B D = none) : Ok K B (upd H3 D (.lst us)) H4 M ∧ Ex H3 (upd H3 D (.lst us)) := by
  have hd : H4 D = some (.lst us) := k.b D _ upd_same
  have hD3 : H3 D = none := k.bh D _ upd_same
  have e' : Ex H3 (upd H3 D (.lst us)) := Ex.new hD3
  refine ⟨⟨fun a u ea => ?_, fun a u ea => ?_, fun a u ea => ?_, fun a c ea => ?_⟩, e'⟩
  · have hc : a ≠ D := ne_of_none ea hB
    exact k.b a u (by rw [upd_ne hc]; exact ea)
  · have hc : a ≠ D := ne_of_none ea hB
    rw [upd_ne hc]
    exact k.bh a u (by rw [upd_ne hc]; exact ea)
  · by_cases hc : a = D
    · rw [hc] at ea ⊢
      rw [upd_same] at ea
      rw [hd]
      exact ea
    · rw [upd_ne hc] at ea
      exact k.h a u ea
  · obtain ⟨m1, m2, m3⟩ := k.m a c ea
    have hc : a ≠ D := fun zz => by
      rw [zz, upd_same] at m1
      cases m1
    rw [upd_ne hc] at m1
    exact ⟨m1, by rw [upd_ne hc]; exact m2, m3.mono e' rfl⟩
theorem flat_take {α : Type} (zss : List (List α)) (i j : Nat) (h : i < zss.length) : ((zss.take i).flatten ++ zss[i].take j).length ≤ zss.flatten.length := by
  have e : zss.flatten = (zss.take i).flatten ++ (zss[i] ++ (zss.drop (i + 1)).flatten) := by
    conv => lhs; rw [← List.take_append_drop i zss, List.flatten_append, List.drop_eq_getElem_cons h, List.flatten_cons]
  rw [e, List.length_append, List.length_append, List.length_append, List.length_take]
  omega
theorem flat_succ {α : Type} (zss : List (List α)) (i : Nat) (h : i < zss.length) : (zss.take (i + 1)).flatten = (zss.take i).flatten ++ zss[i] := by
  rw [List.take_succ_eq_append_getElem h, List.flatten_append]
  simp
end
section
variable {K : PySem.W.Frag} {ρ : Rho} {M : Mm} {Φ : Dt → Mm → Prop} {te : TE} {g g1 : TG} {wi wi1 : TI}
theorem yes_of {σ : L2.St} {H : Hp} {A B : Hp → Prop} (h : A H) : tYes σ H (fun b H3 => if b = true then A H3 else B H3) := by
  show (if true = true then A H else B H)
  rw [if_pos rfl]
  exact h
/-- [.. for .. in .. for .. in ..] whose items change nothing -/
theorem ex_lc2m {vs vs1 : List Nat} (hw : GWipe g vs) (hw1 : GWipe g1 vs1) (h : IX K wi ρ M (fun ys G M1 => G M1 ∧ ∃ zss : List (List Dt), zss.length = ys.length ∧ zss.flatten.length < sizeLine ∧
    (∀ (i : Nat) d zs, ys[i]? = some d → zss[i]? = some zs → GX K g d (wipeR ρ vs) M1 (fun ρ2 M2 => M2 = M1 ∧ IX K wi1 ρ2 M1 (fun ys1 G1 M3 => M3 = M1 ∧ G1 M1 ∧ zs.length = ys1.length ∧
      ∀ (j : Nat) d1 z, ys1[j]? = some d1 → zs[j]? = some z → GX K g1 d1 (wipeR ρ2 vs1) M1 (fun ρ3 M4 => M4 = M1 ∧ EX K te ρ3 M1 (fun y M5 => y = z ∧ M5 = M1))))) ∧ Φ (.lst zss.flatten) M1)) : EX K (tLc2 wi g tYes wi1 g1 tYes te vs vs1) ρ M Φ := fun B H H1 σ o s Q q =>
  h B H H1 σ o s _ fun J ys G M1 H' H2 z k e w D hD => by
    obtain ⟨hG, zss, hl, hz, is, hΦ⟩ := z
    have hB : B D = none := fresh_back k.b hD
    refine ⟨fun i m H4 => m = ys.length - i ∧ i ≤ ys.length ∧ ∃ us H3, H4 D = some (.lst us) ∧ RpAll K H3 us (zss.take i).flatten ∧ Ok K (upd B D (.lst us)) H3 H4 M1 ∧ Ex H' H3, ⟨ys.length, by simp, Nat.zero_le _, [], H', upd_same, .nil, ok_aside k hD, Ex.refl _⟩, ?_⟩
    rintro i m H4 ⟨rfl, hi, us, H3, hd, ra, k3, e3⟩
    by_cases hlt : i < ys.length
    · refine .inr ⟨w.goes i _ H3 H4 M1 hlt k3 e3 hG, fun H6 => ∃ us H3, H6 D = some (.lst us) ∧ RpAll K H3 us (zss.take (i + 1)).flatten ∧ Ok K (upd B D (.lst us)) H3 H6 M1 ∧ Ex H' H3, ?_, fun x H5 y => ?_⟩
      · rintro H6 ⟨us, H3, q1, q2, q3, q4⟩
        exact ⟨ys.length - (i + 1), by omega, rfl, hlt, us, H3, q1, q2, q3, q4⟩
      · obtain ⟨d, H6, y1, y2, k6, e6⟩ := w.item hlt k3 e3 hG y
        have hlt2 : i < zss.length := by omega
        refine hw x σ (L2.wipe σ vs) H5 _ wipe_wipe (is i d zss[i] y1 (List.getElem?_eq_getElem hlt2) _ H6 H5 (L2.wipe σ vs) x k6 (((s.mono e).mono (e3.trans e6)).wipe' vs) y2 _ fun ρ2 M2 σ2 H7 H8 z2 k7 s7 e7 => ?_)
        obtain ⟨eM, z2⟩ := z2
        subst eM
        refine yes_of ?_
        refine z2 _ H7 H8 σ2 k7 s7 _ fun J1 ys1 G1 M3 H9 H10 z3 k9 e9 w1 => ?_
        obtain ⟨eM3, hG1, hl1, is1⟩ := z3
        subst eM3
        refine ⟨fun j n Hj => n = ys1.length - j ∧ j ≤ ys1.length ∧ ∃ us H3, Hj D = some (.lst us) ∧ RpAll K H3 us ((zss.take i).flatten ++ zss[i].take j) ∧ Ok K (upd B D (.lst us)) H3 Hj M3 ∧ Ex H9 H3, ⟨ys1.length, by simp, Nat.zero_le _, us, H9, k9.b D _ upd_same, by rw [List.take_zero, List.append_nil]; exact ra.mono ((e6.trans e7).trans e9), k9, Ex.refl _⟩, ?_⟩
        rintro j n Hj ⟨rfl, hj, us2, H11, hd2, ra2, k11, e11⟩
        by_cases hlt1 : j < ys1.length
        · refine .inr ⟨w1.goes j _ H11 Hj M3 hlt1 k11 e11 hG1, fun H6 => ∃ us H3, H6 D = some (.lst us) ∧ RpAll K H3 us ((zss.take i).flatten ++ zss[i].take (j + 1)) ∧ Ok K (upd B D (.lst us)) H3 H6 M3 ∧ Ex H9 H3, ?_, fun x1 H12 y => ?_⟩
          · rintro H6 ⟨us, H3, q1, q2, q3, q4⟩
            exact ⟨ys1.length - (j + 1), by omega, rfl, hlt1, us, H3, q1, q2, q3, q4⟩
          · obtain ⟨d1, H13, y3, y4, k13, e13⟩ := w1.item hlt1 k11 e11 hG1 y
            have hlt3 : j < zss[i].length := by omega
            refine hw1 x1 σ2 (L2.wipe σ2 vs1) H12 _ wipe_wipe (is1 j d1 zss[i][j] y3 (List.getElem?_eq_getElem hlt3) _ H13 H12 (L2.wipe σ2 vs1) x1 k13 ((s7.mono (e9.trans (e11.trans e13))).wipe' vs1) y4 _ fun ρ3 M4 σ3 H14 H15 z4 k15 s15 e15 => ?_)
            obtain ⟨eM4, z4⟩ := z4
            subst eM4
            refine yes_of ?_
            refine z4 _ H14 H15 σ3 k15 s15 _ fun v y M5 H16 H17 z5 k17 e17 r17 => ?_
            obtain ⟨ey, eM5⟩ := z5
            subst ey eM5
            refine ⟨us2, k17.b D _ upd_same, ?_, us2 ++ [v], H16, upd_same, ?_, ok_put k17, ((e11.trans e13).trans e15).trans e17⟩
            · rw [ra2.length]
              exact Nat.lt_of_le_of_lt (flat_take zss i j hlt2) hz
            · rw [List.take_succ_eq_append_getElem hlt3, ← List.append_assoc]
              exact (ra2.mono ((e13.trans e15).trans e17)).append (.one r17)
        · have hjj : j = ys1.length := by omega
          subst hjj
          refine .inl ⟨w1.stops _ H11 Hj M3 k11 e11 hG1, us2, H11, hd2, ?_, k11, (((e3.trans e6).trans e7).trans e9).trans e11⟩
          rw [flat_succ zss i hlt2]
          rw [← hl1, List.take_length] at ra2
          exact ra2
    · have hzz : i = ys.length := by omega
      subst hzz
      obtain ⟨k5, e'⟩ := ok_back k3 hB
      rw [← hl, List.take_length] at ra
      exact .inl ⟨w.stops _ H3 H4 M1 k3 e3 hG, q (.ref D) (.lst zss.flatten) M1 _ H4 hΦ k5 ((e.trans e3).trans e') (.lst upd_same (ra.mono e'))⟩
theorem cx_any {d : Dt} {bs : List Bool} (hd : d = .lst (bs.map Dt.bl) ∨ d = .frl (bs.map Dt.bl)) (k : Φ (.bl (bs.any id)) M) : CX K (rAny K) [d] M Φ := fun B H H1 vs o r Q q => by
  cases r with
  | cons r rr =>
    cases rr
    rcases hd with rfl | rfl
    · obtain ⟨a, us, rfl, h1, r1⟩ := r.lst_inv
      have e := r1.bls
      subst e
      exact ⟨a, bs, rfl, sq_of (o.h _ _ h1), q _ _ M H H1 k o (Ex.refl H) (.bl _)⟩
    · obtain ⟨a, us, rfl, h1, r1⟩ := r.frl_inv
      have e := r1.bls
      subst e
      exact ⟨a, bs, rfl, ex_l o.h h1, q _ _ M H H1 k o (Ex.refl H) (.bl _)⟩
end
section
variable {X : Cx} (K : PySem.W.Frag)
theorem pi_anyK {tg l : Expr} {tl : TE} (e : X.K = K) (hl : PE X l tl) : PI X tg l (iAny K tl) := by subst e; exact pi_any hl
theorem call_strDK {k : Nat} (e : X.K = K) (hr : Room k X.A) (hg : X.A.guards = some []) : CallR X (.type "str") (rShowR K) := by subst e; exact call_strD hr hg
end
/-! C(a, ..) -/
section
variable {X : Cx} {k j : Nat} {C : Addr} {x : Str} {sp : Sp} {p pos : Pos} {e : Expr} {es : List Expr} {t : TA}
theorem pe_mkA (c : MkR X.prog X.w X.K X.mg X.base k C x sp) (hr : Room j X.A) (hk : k + 1 ≤ j) (hg : Gl X x) (ha : PA X (e :: es) t) (hdb : (x == ("__debug__" : Str)) = false := by decide)
    (he : starEach (e :: es) X.env = (false, eval e X.env) :: starEach es X.env := by rfl) (hpl : (backTo pos (starEach es X.env)).any (·.1) = false := by rfl) : PE X (.Call (.Name x p) (e :: es) [] pos) (StX.tMakeR C sp E0 t) := by
  obtain ⟨f, M, F⟩ := c.ex
  exact StX.pe_makeR M F (hr.mono hk) hg c.gl pass0 ha hdb he hpl
end
section
variable {K : PySem.W.Frag} {ρ : Rho} {M : Mm} {Φ : Dt → Mm → Prop} {t : TA} {E : XK} {C : Addr} {α : Type} {pre : α → List Dt → Mm → Prop} {post : α → Mm → Dt → Mm → Prop}
theorem ex_makeA (h : AX K t ρ M (fun xs M1 => ∀ x, M1 x = none → ∃ y, pre y (.raw (.ref x) :: xs) (put M1 x (.ins C [])) ∧ ∀ d M2, post y (put M1 x (.ins C [])) d M2 → d = .non ∧ Φ (.raw (.ref x)) M2)) :
    EX K (StX.tMakeR C (SpD K pre post) E t) ρ M Φ := fun B H H1 σ o s Q q =>
  h B H H1 σ o s _ fun vs xs M' H' H2 z k e r x dx hx hdx ne => by
    obtain ⟨y, z1, z2⟩ := z x (k.noMem hx)
    have k1 := k.grow (o := .own x) hdx
    have e1 := Ex.new (o := .own x) (fresh_back k.h hdx)
    have hx1 : upd H2 dx (.own x) x = none := by
      rw [upd_ne ne.symm]
      exact hx
    have k2 := k1.cell (o := .ins C dx []) (c := .ins C []) hx1 ⟨dx, [], upd_same, .nil⟩
    exact ⟨y, B, _, _, _, k2, .cons (.raw _) (r.mono e1), z1, fun v d M3 H5 H6 hp k3 e3 r3 => by
      obtain ⟨rfl, z3⟩ := z2 d M3 hp
      exact ⟨r3.non_inv, q _ _ _ _ _ z3 k3 (e.trans (e1.trans e3)) (.raw _)⟩⟩
end
/-! own == beside another kind -/
inductive TyC (K : PySem.W.Frag) (H : Hp) : V → String → Prop
  | int (i : Int) : TyC K H (.int i) "int"
  | str (x : Str) : TyC K H (.str x) "str"
  | tup {a : Addr} {xs : List V} (h : SqT K H a xs) : TyC K H (.ref a) "tuple"
def rOwnX (K : PySem.W.Frag) (C : Addr) (sp : Sp) (E : XK) : R2 := fun x y H Q => ∃ a dx fs T, x = .ref a ∧ H a = some (.ins C dx fs) ∧ TyC K H y T ∧ PySem.W.notFirst K C (.type T) = true ∧ sp [x, y] H (fun v H' => ∃ k, v = .bl k ∧ Q (.bl k) H') E
section
variable {X : Cx} {k j : Nat} {C : Addr} {sp : Sp}
theorem op_eqX (c : EqR X.prog X.w X.K X.mg X.base k C sp) (hr : Room j X.A) (hk : k ≤ j) : OpR X (compareOp .Eq) (rOwnX X.K C sp E0) := by
  obtain ⟨f, o, _, F⟩ := c.ex
  intro pins s σ H x y u v Q I rx ry h
  obtain ⟨a, dx, fs, T, ex, ha, ty, hn, hq⟩ := h
  subst ex
  cases rx
  obtain ⟨mA, J, _⟩ := ins_get I.hok ha
  obtain ⟨od, J, _⟩ := J.look
  obtain ⟨m, hF⟩ := I.fr
  have hb : PySem.W.Looks (model X.prog X.w) s.heap (typeOf v) (.type T) := by
    cases ty with
    | int i =>
      obtain ⟨t, rfl⟩ := ry
      exact PySem.W.Looks.of_pure rfl
    | str i =>
      obtain ⟨t, rfl⟩ := ry
      exact PySem.W.Looks.of_pure rfl
    | tup ht =>
      cases ry
      obtain ⟨its, rv, ⟨ob, ho, hc, _⟩, _⟩ := I.tuple ht
      exact fun A Q E s k q => wpAny_typeOf_ref (k _ _ ho) (by rw [hc]; exact q)
  refine PySem.W.cmp_K (op := .Eq) hr.units0 hF I.ok.mod.kin J hb hn o.at_ o.fn ?_
  refine wpAny_call (codeAny_mono (F X.A X.stack s H [.ref a, v] [.ref a, y] _ E0 (hr.mono hk) I.env0 (.cons rfl (.cons ry .nil)) hq) fun r s' hq => ?_)
  cases r with
  | error e => exact hq.elim
  | ok fl =>
    cases fl with
    | ret u =>
      obtain ⟨v, H1, I1, rv, k, ev, q⟩ := I.after hq
      subst ev
      cases rv
      exact ⟨.bl k, H1, I1, rfl, q⟩
    | next => exact False.elim hq
    | brk => exact False.elim hq
    | cont => exact False.elim hq
end
section
open Evl
variable {K : PySem.W.Frag} {ρ : Rho} {M : Mm} {Φ : Dt → Mm → Prop} {E : XK} {C : Addr} {α : Type} {pre : α → List Dt → Mm → Prop} {post : α → Mm → Dt → Mm → Prop}
inductive TyD : Dt → String → Prop
  | int (i : Int) : TyD (.int i) "int"
  | str (x : Str) : TyD (.str x) "str"
  | tup (xs : List Dt) : TyD (.tup xs) "tuple"
theorem rx_ownX {fs : List (Str × Dt)} {d : Dt} {T : String} (ty : TyD d T) (hn : PySem.W.notFirst K C (.type T) = true) (h : ∃ z, pre z [.obj C fs, d] M ∧ ∀ d M', post z M d M' → ∃ b, d = .bl b ∧ Φ (.bl b) M') : RX K (rOwnX K C (SpD K pre post) E) (.obj C fs) d M Φ := fun B H H1 vx vy o rx ry Q q => by
  obtain ⟨z, z1, z2⟩ := h
  obtain ⟨a, dx, us, rfl, h1, r1⟩ := rx.obj_inv
  have ty' : TyC K H1 vy T := by
    cases ty with
    | int i => rw [ry.int_inv]; exact .int i
    | str i => rw [ry.str_inv]; exact .str i
    | tup xs =>
      obtain ⟨b, ys, rfl, h2, r2⟩ := ry.tup_inv
      exact .tup (ex_t o.h h2)
  refine ⟨a, dx, us, T, rfl, o.h _ _ h1, ty', hn, z, B, H, M, _, o, .cons rx (.one ry), z1, fun v d M3 H5 H6 hp k3 e3 r3 => ?_⟩
  obtain ⟨b, rfl, z3⟩ := z2 d M3 hp
  exact ⟨b, r3.bl_inv, q _ _ _ _ _ z3 k3 e3 (.bl _)⟩
/-- isinstance(x, C) of another kind -/
theorem cx_isiN {D : Addr} {d : Dt} {T : String} {b : Bool} (ty : TyD d T) (e : PySem.W.kitOne K (.type T) (.ref D) = some b) (k : Φ (.bl b) M) : CX K (rIsi K) [d, .raw (.ref D)] M Φ := fun B H H1 vs o r Q q => by
  cases r with
  | cons r rr =>
    cases rr with
    | cons r2 rr =>
      cases rr
      obtain rfl := r2.raw_inv
      have fin : ∀ {x : V}, TyX K H1 x (.type T) → rIsi K [x, .ref D] H1 Q := fun {x} h => ⟨_, _, .type T, .ref D, b, rfl, .own D, h, e, q _ _ _ _ _ k o (Ex.refl H) (.bl b)⟩
      cases ty with
      | int i =>
        rw [r.int_inv]
        exact fin (.base (.int i))
      | str i =>
        rw [r.str_inv]
        exact fin (.base (.str i))
      | tup xs =>
        obtain ⟨a, us, rfl, h2, r2⟩ := r.tup_inv
        rcases ex_t o.h h2 with h | ⟨ob, its, n, h1, h2, _⟩
        · rcases h with h | ⟨ob, h⟩
          · exact fin (.base (.tup h))
          · exact fin (.fTuple h)
        · exact fin (.kTuple h1 h2)
end
end Wk
/-! ## WkS -/
/-! f-strings over data; the texts of points. -/
namespace Wk
open PySem L2 Evl
section
variable {K : PySem.W.Frag} {ρ : Rho} {M : Mm} {Φ : Dt → Mm → Prop} {te : TE} {ts : List TE}
def JX (K : PySem.W.Frag) (ts : List TE) (acc : Str) (ρ : Rho) (M : Mm) (Φ : Str → Mm → Prop) : Prop := ∀ (B H H1 : Hp) (σ : L2.St), Ok K B H H1 M → SlOk K H σ ρ → ∀ Q : Str → Hp → Prop,
  (∀ out M' H' H2, Φ out M' → Ok K B H' H2 M' → Ex H H' → Q out H2) → tJs ts acc σ H1 Q
theorem jx_nil {acc : Str} {Φ : Str → Mm → Prop} (k : Φ acc M) : JX K [] acc ρ M Φ := fun B H H1 σ o s Q q => q _ _ _ _ k o (Ex.refl H)
theorem jx_cons {acc : Str} {Φ : Str → Mm → Prop} (h : EX K te ρ M (fun d M1 => ∃ y, d = .str y ∧ (acc ++ y).length ≤ sizeLine ∧ JX K ts (acc ++ y) ρ M1 Φ)) : JX K (te :: ts) acc ρ M Φ := fun B H H1 σ o s Q q =>
  h B H H1 σ o s _ fun v d M' H' H2 z k e r => by
    obtain ⟨y, rfl, hl, z⟩ := z
    exact ⟨y, r.str_inv, hl, z B H' H2 σ k (s.mono e) Q fun out M3 H3 H4 z3 k3 e3 => q out M3 H3 H4 z3 k3 (e.trans e3)⟩
theorem ex_joined (h : JX K ts Str.empty ρ M (fun out M1 => Φ (.str out) M1)) : EX K (fun σ H Q => tJs ts Str.empty σ H fun out H1 => Q (.str out) H1) ρ M Φ := fun B H H1 σ o s Q q =>
  h B H H1 σ o s _ fun out M' H' H2 z k e => q _ _ _ _ _ z k e (.str _)
theorem ex_fmtI (h : EX K te ρ M (fun d M1 => ∃ i, d = .int i ∧ i.natAbs.log2 < 1920 ∧ Φ (.str (toString i)) M1)) : EX K (tFmt te) ρ M Φ := fun B H H1 σ o s Q q =>
  h B H H1 σ o s _ fun v d M' H' H2 z k e r => by
    obtain ⟨i, rfl, hl, z⟩ := z
    exact .inr ⟨i, r.int_inv, hl, q _ _ _ _ _ z k e (.str _)⟩
end
theorem str_nil (y : Str) : Str.empty ++ y = y := TL.ext_tl (by rw [TL.tl_append] <;> rfl)
/-! points shown -/
abbrev sSep : Str := ", "
abbrev sOpen : Str := "("
abbrev sShut : Str := ")"
def tP (p : Pt) : Str := shD (P2 p)
theorem tP_eq (p : Pt) : tP p = sOpen ++ Str.join sSep [wI p.1, wI p.2] ++ sShut := by
  unfold tP shD
  rw [toP, toPs, toPs, toPs, toP, toP]
  simp only [PyData.shown, PyData.shownAll]
  rfl
theorem tP_len {p : Pt} (h : p.1.natAbs < 2 ^ 200 ∧ p.2.natAbs < 2 ^ 200) : (tP p).length ≤ 130 := by
  have h1 := wI_len h.1
  have h2 := wI_len h.2
  have e : tP p = sOpen ++ ((wI p.1 ++ sSep) ++ wI p.2) ++ sShut := by
    rw [tP_eq]
    rfl
  rw [e]
  rw [TL.len_tl] at h1 h2 ⊢
  rw [TL.tl_append, TL.tl_append, TL.tl_append, TL.tl_append, List.length_append, List.length_append, List.length_append, List.length_append]
  have e1 : (TL.tl sOpen).length = 1 := by decide +kernel
  have e2 : (TL.tl sShut).length = 1 := by decide +kernel
  have e3 : (TL.tl sSep).length = 2 := by decide +kernel
  omega
theorem sh_int {i : Int} (h : i.natAbs < 2 ^ 200) : Sh (.int i) := by
  refine ⟨rfl, ?_, ?_⟩
  · rw [toP]
    simpa [PyData.showable] using log_lt h
  · unfold shD
    rw [toP]
    simp only [PyData.shown]
    exact Nat.le_trans (wI_len h) (by decide)
theorem sh_bl (b : Bool) : Sh (.bl b) := by
  refine ⟨rfl, ?_, ?_⟩
  · rw [toP]
    simp [PyData.showable]
  · unfold shD
    rw [toP]
    simp only [PyData.shown]
    cases b <;> decide +kernel
theorem showable_p2 {p : Pt} (h : p.1.natAbs < 2 ^ 200 ∧ p.2.natAbs < 2 ^ 200) : (toP (P2 p)).showable = true := by
  rw [toP, toPs, toPs, toPs, toP, toP]
  simp only [PyData.showable, PyData.showableAll, log_lt h.1, log_lt h.2]
  rfl
theorem sh_p2 {p : Pt} (h : p.1.natAbs < 2 ^ 200 ∧ p.2.natAbs < 2 ^ 200) : Sh (P2 p) := ⟨rfl, showable_p2 h, Nat.le_trans (tP_len h) (by decide)⟩
theorem shownAll_pts : ∀ ps : List Pt, PyData.shownAll (toPs (ps.map P2)) = ps.map tP
  | [] => by
    rw [List.map_nil, toPs]
    simp only [PyData.shownAll]
    rfl
  | p :: ps => by
    rw [List.map_cons, toPs]
    simp only [PyData.shownAll]
    rw [shownAll_pts ps] <;> rfl
theorem showableAll_pts : ∀ {ps : List Pt}, Small ps → PyData.showableAll (toPs (ps.map P2)) = true
  | [], _ => by
    rw [List.map_nil, toPs]
    simp only [PyData.showableAll]
  | p :: ps, h => by
    rw [List.map_cons, toPs]
    simp only [PyData.showableAll]
    rw [showable_p2 (h p List.mem_cons_self), showableAll_pts fun q hq => h q (List.mem_cons_of_mem _ hq)] <;> rfl
theorem shD_pts (ps : List Pt) : shD (Pts ps) = tupleText (ps.map tP) := by
  show (toP (.tup (ps.map P2))).shown = _
  rw [toP]
  simp only [PyData.shown]
  rw [shownAll_pts]
theorem sumT_len {ps : List Pt} (h : Small ps) : ((ps.map tP).map (·.length)).sum ≤ 130 * ps.length := by
  induction ps with
  | nil => exact Nat.zero_le _
  | cons p ps ih =>
    have h1 := tP_len (h p List.mem_cons_self)
    have h2 := ih fun q hq => h q (List.mem_cons_of_mem _ hq)
    rw [List.map_cons, List.map_cons, List.sum_cons, List.length_cons]
    omega
theorem joinT_len {ps : List Pt} (h : Small ps) : (Txt.join sSep (ps.map tP)).length ≤ 132 * ps.length := by
  have q := StrLaws.join_length_le sSep (ps.map tP)
  have h2 := sumT_len h
  rw [TL.join_eq]
  have e : sSep.length = 2 := rfl
  rw [e, List.length_map] at q
  omega
theorem shD_pts_len {ps : List Pt} (h : Small ps) (hl : ps.length ≤ 100) : (shD (Pts ps)).length ≤ 14000 := by
  rw [shD_pts]
  have h1 := tupleText_len_le (ps.map tP)
  have h2 := sumT_len h
  rw [List.length_map] at h1
  omega
theorem sh_pts {ps : List Pt} (h : Small ps) (hl : ps.length ≤ 100) : Sh (Pts ps) := by
  refine ⟨plain_pts ps, ?_, Nat.le_trans (shD_pts_len h hl) (by decide)⟩
  show (toP (.tup (ps.map P2))).showable = true
  rw [toP]
  simp only [PyData.showable]
  exact showableAll_pts h
/-- how a polygon is shown -/
abbrev sPoly : Str := "Polygon"
def reprP (ps : List Pt) : Str := sPoly ++ shD (Pts ps)
theorem reprP_eq {ps : List Pt} (h : ps.length ≠ 1) : ("Polygon(" : Str) ++ Txt.join sSep (ps.map tP) ++ sShut = reprP ps := by
  unfold reprP
  rw [shD_pts]
  unfold tupleText
  rw [List.length_map, if_neg (by simpa using h)]
  refine TL.ext_tl ?_
  rw [TL.tl_append, TL.tl_append, TL.tl_append, TL.tl_append, TL.tl_append]
  have e : TL.tl ("Polygon(" : Str) = TL.tl sPoly ++ TL.tl ("(" : Str) := by decide +kernel
  rw [e, List.append_assoc, List.append_assoc, List.append_assoc, TL.join_eq] <;> rfl
theorem reprP_len {ps : List Pt} (h : Small ps) (hl : ps.length ≤ 100) : (reprP ps).length ≤ 14007 := by
  have q := shD_pts_len h hl
  unfold reprP
  rw [TL.len_tl, TL.tl_append, List.length_append]
  rw [TL.len_tl] at q
  have e : (TL.tl sPoly).length = 7 := by decide +kernel
  omega
end Wk
/-! ## WkU -/
/-! The top's call of the law, by a promise that holds where nothing is being shown. -/
namespace Wk
open PySem PySem.Spec PyProof.Rows L2
section
variable {P : Program} {w : World} {K : PySem.W.Frag} {mg mb : Str → Option Value} {CX : CXT} {k : Nat} {fa a : Addr} {sp : Sp} {s : Shared} {vs : List Value} {ns : List Int} {H : Hp}
/-- the module's objects without what is tracked -/
theorem top_keep {b : Addr} {o : Obj} (e : s.heap.get? b = some o) (h : ∀ u, H b = some u → False) : (hidT s.heap H).get? b = some o := hidT_get e (by
  cases z : H b with
  | none => rfl
  | some u => exact (h u z).elim)
theorem top_ns {o : Obj} (ea : s.heap.get? a = some o) (sq : ∃ l n, o.data = .seq l n) (only : ∀ b u, H b = some u → b = a) {b : Addr} {m : Str → Option Value} (z : s.heap.Ns b m) : (hidT s.heap H).Ns b m := by
  obtain ⟨ob, es, ep, e1, e2, rest⟩ := z
  refine ⟨ob, es, ep, top_keep e1 fun u hu => ?_, e2, rest⟩
  have hb := only b u hu
  subst hb
  rw [ea] at e1
  cases e1
  obtain ⟨l, n, hl⟩ := sq
  rw [hl] at e2
  cases e2
theorem top_env (inK : K.In s.heap) (gl : s.heap.Ns mainGlobals mg) (bl : s.heap.Ns builtinsNs mb) (boot : ∀ y : Str, y ≠ "__name__" → mb y = bootBuiltins y) (nl : s.heap.NoLimit) (gn : s.gens = #[]) {o : Obj} (ea : s.heap.get? a = some o) (sq : ∃ l n, o.data = .seq l n)
    (ok : HOk P w H s.heap) (only : ∀ b u, H b = some u → b = a) (nk : ∀ u, H a = some u → K.lookup a = none) : K.In (hidT s.heap H) ∧ (hidT s.heap H).Ns mainGlobals mg ∧ Env0 P w K mg (hidT s.heap H) callerA [] s H := by
  have i1 : K.In (hidT s.heap H) := fun b ob e => top_keep (inK b ob e) fun u hu => by
    have hb := only b u hu
    subst hb
    have z := nk u hu
    rw [z] at e
    cases e
  have i2 : (hidT s.heap H).Ns mainGlobals mg := top_ns ea sq only gl
  obtain ⟨lm, l1, l2⟩ := nl
  exact ⟨i1, i2, rfl, ⟨i1, i2, ⟨mb, top_ns ea sq only bl, boot⟩, lm, top_ns ea sq only l1, l2⟩, fun _ _ e => of_hidT e, Nat.le_of_eq (hidT_size _ _), trivial, (fun _ hb => by cases hb), ok, .of_eq gn⟩
theorem top_runs (inK : K.In s.heap) (gl : s.heap.Ns mainGlobals mg) (bl : s.heap.Ns builtinsNs mb) (boot : ∀ y : Str, y ≠ "__name__" → mb y = bootBuiltins y) (nl : s.heap.NoLimit) (gn : s.gens = #[]) {o : Obj} (ea : s.heap.get? a = some o) (sq : ∃ l n, o.data = .seq l n)
    (room : Room k callerA) (F : ∀ base : Heap, K.In base → base.Ns mainGlobals mg → FnG P w K mg base CX k fa sp) (ok : HOk P w H s.heap) (only : ∀ b u, H b = some u → b = a) (froz : ∀ u, H a = some u → ∃ o xs, u = .frz o (.lst xs)) (nk : ∀ u, H a = some u → K.lookup a = none)
    (hsp : sp [.ref a] H (fun v _ => v = .bl true) fun _ _ _ => False) (none_out : ∀ e s', CX [] H s (fun _ _ _ => False) e s' → False) :
    codeAny (model P w) callerA (.call (.ref fa) ⟨[.ref a], []⟩) (fun r s' => r = .ok (.ret (.bool true)) ∧ OldK s.heap s'.heap ∧ s'.os = s.os ∧ AllBare s'.gens) s := by
  obtain ⟨i1, i2, env⟩ := top_env inK gl bl boot nl gn ea sq ok only nk
  refine codeAny_mono (F _ i1 i2 callerA [] s H [.ref a] [.ref a] _ _ room rfl env (.cons rfl .nil) hsp) fun res s' hres => ?_
  match res, hres with
  | .error e, he => exact (none_out e s' he).elim
  | .ok .next, z => exact z.elim
  | .ok .brk, z => exact z.elim
  | .ok .cont, z => exact z.elim
  | .ok (.ret u), hu =>
    obtain ⟨v, H2, sameOs, bare, un, ok2, rv, ev⟩ := hu
    obtain rfl : v = V.bl true := ev
    obtain rfl : u = Value.bool true := rv
    refine ⟨rfl, OldK.of_keep fun b ob eb => ?_, sameOs, bare⟩
    cases z : H b with
    | none => exact un.keep b ob eb z (fun m => by cases m) (fun m => by cases m)
    | some u =>
      have hb := only b u z
      subst hb
      obtain ⟨o3, xs, rfl⟩ := froz u z
      obtain ⟨g1, _⟩ := ok b _ z
      obtain ⟨g2, _⟩ := ok2 b _ (un.frzs b o3 _ z)
      rw [eb] at g1
      cases g1
      exact g2
/-- the script as it stands: one of the module's own lists, or a list that is known -/
def oneH (a : Addr) (vs : List Value) (ns : List Int) : Hp := fun b => if b = a then some (.frz { cls := .type "list", data := .seq vs.toArray } (.lst (ns.map V.int))) else none
theorem top_call (inK : K.In s.heap) (gl : s.heap.Ns mainGlobals mg) (bl : s.heap.Ns builtinsNs mb) (boot : ∀ y : Str, y ≠ "__name__" → mb y = bootBuiltins y) (nl : s.heap.NoLimit) (gn : s.gens = #[])
    (ea : s.heap.get? a = some { cls := .type "list", data := .seq vs.toArray }) (hns : IntsAre vs ns) (len : ns.length ≤ sizeLine) (room : Room k callerA) (F : ∀ base : Heap, K.In base → base.Ns mainGlobals mg → FnG P w K mg base CX k fa sp)
    (hsp : ∀ H : Hp, SqL K H a (ns.map V.int) → sp [.ref a] H (fun v _ => v = .bl true) fun _ _ _ => False) (none_out : ∀ H e s', CX [] H s (fun _ _ _ => False) e s' → False) :
    codeAny (model P w) callerA (.call (.ref fa) ⟨[.ref a], []⟩) (fun r s' => r = .ok (.ret (.bool true)) ∧ OldK s.heap s'.heap ∧ s'.os = s.os ∧ AllBare s'.gens) s := by
  have rv := vals_ints hns
  have hl := hns.length
  have sq : ∃ l n, ({ cls := .type "list", data := .seq vs.toArray } : Obj).data = .seq l n := ⟨_, _, rfl⟩
  by_cases hk : ∃ o, K.lookup a = some o
  · obtain ⟨o, hk⟩ := hk
    have e2 := inK a o hk
    rw [ea] at e2
    cases e2
    have s0 : SqL K (fun _ => none) a (ns.map V.int) := .inr ⟨_, vs.toArray, _, hk, rfl, rfl, rfl, by rw [List.size_toArray, hl]; exact len, by simpa using rv⟩
    exact top_runs (H := fun _ => none) inK gl bl boot nl gn ea sq room F (fun b u z => nomatch z) (fun b u z => nomatch z) (fun u z => nomatch z) (fun u z => nomatch z) (hsp _ s0) (none_out _)
  · have kn : K.lookup a = none := by
      cases z : K.lookup a with
      | none => rfl
      | some o => exact absurd ⟨o, z⟩ hk
    have one : ∀ b u, oneH a vs ns b = some u → b = a ∧ u = .frz { cls := .type "list", data := .seq vs.toArray } (.lst (ns.map V.int)) := fun b u z => by
      unfold oneH at z
      by_cases hb : b = a
      · rw [if_pos hb] at z
        cases z
        exact ⟨hb, rfl⟩
      · rw [if_neg hb] at z
        cases z
    have at_ : oneH a vs ns a = some (.frz { cls := .type "list", data := .seq vs.toArray } (.lst (ns.map V.int))) := if_pos rfl
    refine top_runs (H := oneH a vs ns) inK gl bl boot nl gn ea sq room F (fun b u z => ?_) (fun b u z => (one b u z).1) (fun u z => ⟨_, _, (one a u z).2⟩) (fun _ _ => kn) (hsp _ (.inl (.inr ⟨_, at_⟩))) (none_out _)
    obtain ⟨rfl, rfl⟩ := one b u z
    exact ⟨ea, by rw [List.length_map]; exact len, vs, _, rv, ea⟩
end
/-- a value of a built-in kind is no instance of C -/
theorem kit_no {K : PySem.W.Frag} {C : Addr} {cd : ClassData} {T : String} (h1 : PySem.W.clsIn K C = some cd) (h2 : PySem.W.typeIn K (.ref C) = some (.type "type")) (h3 : PySem.W.subIn K (.type T) (.ref C) = some false) : PySem.W.kitOne K (.type T) (.ref C) = some false := by
  have e : ¬ ((Value.type T == Value.ref C) = true) := fun e => by
    have q := eq_of_beq e
    cases q
  have e2 : ((PySem.W.clsIn K C).isSome && PySem.W.typeIn K (.ref C) == some (.type "type")) = true := by
    rw [h1, h2]
    simp
  unfold PySem.W.kitOne
  rw [if_neg e]
  exact (if_pos e2).trans h3
theorem top_walk {l : PySem.W.OpenLaw} {n k : Nat} {q : Program} {loose : List Str} {XP : (Str → Option Value) → Heap → Prop} {YP : World → Heap → Prop} {d : DefRec} {K : Params → PySem.W.Frag} {CX : World → CXT} {sp : World → Sp}
    (hn : l.most = some n) (small : n ≤ sizeLine) (hdf : d.params.defaults = []) (room : Room k callerA) (hY : ∀ (w : World) (h : Heap), YP w h → (K w.params).In h)
    (F : ∀ (w : World) (mg : Str → Option Value) (fa : Addr) (h : Heap), (K w.params).In h → h.Ns mainGlobals mg → mg d.name = some (.ref fa) → ∀ base : Heap, (K w.params).In base → base.Ns mainGlobals mg → FnG l.prog w (K w.params) mg base (CX w) k fa (sp w))
    (hsp : ∀ (w : World) (H : Hp) (a : Addr) (ns : List Int), ns.length ≤ n → SqL (K w.params) H a (ns.map V.int) → sp w [.ref a] H (fun v _ => v = .bl true) fun _ _ _ => False)
    (none_out : ∀ (w : World) (H : Hp) (s : Shared) (e : Value) (s' : Shared), CX w [] H s (fun _ _ _ => False) e s' → False) : PySem.W.WalkO q loose XP YP l.row.toRowW d [] (fun f vs => PySem.call f vs) := by
  refine Att.attach_call hn hdf fun w s₀ s₁ mg mb fa o pm cd doc a vs ns G Y ho hd hcd hmg hobj hints hlen hg => ?_
  have inK := hY w _ Y
  exact top_call inK G.T.g G.T.b G.T.builtins G.T.nolimit hg hobj hints (Nat.le_trans hlen small) room (F w mg fa _ inK G.T.g hmg) (fun H hS => hsp w H a ns hlen hS) fun H e s' => none_out w H s₁ e s'
end Wk
/-! ## WkX -/
/-! An own exception over ValueError, at any depth of own classes, whose __init__ says super().__init__(f'..') and stores one field. -/
namespace Wk
open PySem PySem.Spec PyProof.Rows L2
open PySem.W (ksFn ksEnv kxs_mw KxsAt)
/-- {u} is some text, wherever the objects of h but x stand -/
def FmtAny (prog : Program) (w : World) (h : Heap) (x : Addr) (u : Value) (B : Nat) : Prop := ∀ (A : Around) (E : Value → Shared → Prop) (s : Shared) (Q : Value → Shared → Prop), A.units + 8 < cLine → (∀ b o, b ≠ x → h.get? b = some o → s.heap.get? b = some o) →
  (∀ (m : Str) (tk tk2 : Tok), m.length ≤ B → Q (.str m tk) { s with toks := tk2 }) → wpAny (model prog w) A (formatField u Str.empty) Q E s
/-- the parts of such a text -/
inductive MsgPart (fld : Str) : Expr → Prop
  | txt (a : Str) (k : Nat) (p : Pos) (h : a.length ≤ 200) : MsgPart fld (.Constant (.str a) k p)
  | fld (p1 p2 : Pos) : MsgPart fld (.FormattedValue (.Name fld p1) (-1) none p2)
/-- what K says of the class and its __init__ -/
structure SupF (prog : Program) (K : PySem.W.Frag) (C f cc cda : Addr) (qual fld : Str) (params : Arguments) (body : List Stmt) (scope : Scope) : Prop where
  oex : OexC K C
  iC : PySem.W.findIn K (.ref C) "__init__" = some (some (.ref f))
  tI : PySem.W.typeIn K (.ref f) = some (.type "function")
  fn : ∃ (oc : Value) (od : Option Addr) (dV kV doc pm ct : Value) (an : Option Addr) (osl : Array (Option Value)), K.lookup f = some ⟨oc, od, .func (ksFn "__init__" qual params body scope dV kV doc pm an (.ref cda) ct cc), osl⟩ ∧
    ∀ us : List Value, us.length = 2 → bindArgs (ksFn "__init__" qual params body scope dV kV doc pm an (.ref cda) ct cc) ⟨us, []⟩ = pure ([("self" : Str), fld].zip us)
  code : PySem.W.codeIn K (.ref cda) qual = true
  cda : ∃ (ccl : Value) (cdd : Option Addr) (vs : Array Value) (ccs : Array (Option Value)) (file : Str) (tf : Tok), K.lookup cda = some ⟨ccl, cdd, .fields vs, ccs⟩ ∧ vs[2]? = some (.str file tf) ∧ ((prog.main.file : Str) == file) = true
  cell : ∃ (cl : Value) (cld : Option Addr) (csl : Array (Option Value)), K.lookup cc = some ⟨cl, cld, .cell (some (.ref C)), csl⟩
  tp : PySem.W.nsIn K cStatics "thirdparty.any" = some none
  up : PySem.W.ks_superIn K C C "__init__" = some (some (.builtin "ValueError.__init__"))
  isV : PySem.W.subIn K (.ref C) (.type "ValueError") = some true
  noF : PySem.W.findIn K (.ref C) fld = some none
  top : (prog.main.scope.names.lookup ("super" : Str)).isSome = false
/-- .. and its text -/
structure SupT (fld : Str) (params : Arguments) (body : List Stmt) (scope : Scope) : Prop where
  hd : ∃ ar, (params.posonlyargs ++ params.args).head? = some ar ∧ ar.arg = "self"
  body : ∃ (p0 p1 p2 p3 p4 p5 p6 p7 p8 p9 : Pos) (v1 v2 : Expr) (r : List Expr), body = [.Expr (.Call (.Attribute (.Call (.Name "super" p0) [] [] p1) "__init__" p2) [.JoinedStr (v1 :: v2 :: r) p9] [] p3) p4, .Assign [.Attribute (.Name "self" p5) fld p6] (.Name fld p7) p8] ∧ (v1 :: v2 :: r).length ≤ 5 ∧ (∀ e ∈ v1 :: v2 :: r, MsgPart fld e) ∧
    ∀ env : Env, ∃ pl : Sem Bool, eval (.Call (.Attribute (.Call (.Name "super" p0) [] [] p1) "__init__" p2) [.JoinedStr (v1 :: v2 :: r) p9] [] p3) env = (do
      let ov ← attributeBase (.Call (.Name "super" p0) [] [] p1) "__init__" env (eval (.Call (.Name "super" p0) [] [] p1) env)
      standAt p2.atName
      let (f, first) ← holding [ov] (getMethod ov "__init__" pl)
      callWith p3 f first (backTo p3 (starEach [.JoinedStr (v1 :: v2 :: r) p9] env)) [])
  kind : scope.kind = .function
  co : scope.isCoroutine = false
  gen : scope.isGenerator = false
  noC : ∀ y ∈ scope.names, y.2 ≠ .cell
  ls : scope.names.lookup ("self" : Str) = some .local
  lf : scope.names.lookup fld = some .local
  su : scope.names.lookup ("super" : Str) = some .globalImplicit
  cl : scope.names.lookup ("__class__" : Str) = some .free
  ne : (fld == ("self" : Str)) = false
  nd : (fld == ("__debug__" : Str)) = false

section
variable {prog : Program} {w : World} {A : Around} {E : Value → Shared → Prop} {K : PySem.W.Frag} {C f cc cda x L : Addr} {qual fld : Str} {params : Arguments} {body : List Stmt} {scope : Scope} {h : Heap} {g : Array GenState} {d : Drawn} {t : Nat} {os : OsState} {m mg mb : Str → Option Value} {u : Value} {B : Nat}
/-- the text comes -/
theorem msg_parts {h0 : Heap} (hu : A.units + 8 < cLine) (hk : scope.kind = .function) (lf : scope.names.lookup fld = some .local) (nd : (fld == ("__debug__" : Str)) = false) (fm : FmtAny prog w h0 x u B) (hB : B ≤ 100000) (mv : m fld = some u) :
    ∀ (es : List Expr) (acc : Str) (s : Shared) (R : Str → Shared → Prop), (∀ e ∈ es, MsgPart fld e) → acc.length + es.length * 100200 ≤ 1000000 → s.heap.Ns L m → (∀ b o, b ≠ x → h0.get? b = some o → s.heap.get? b = some o) →
      (∀ (out : Str) (tk : Nat), out.length ≤ 1000000 → R out { s with toks := tk }) → Joins (model prog w) A E (evalEach es (ksEnv qual scope L f (.ref cda) cc)) acc R s
  | [], acc, s, R, _, hl, _, _, k => by
    have e0 : evalEach [] (ksEnv qual scope L f (.ref cda) cc) = [] := by first | rfl | simp [evalEach]
    rw [e0]
    exact k acc s.toks (by simpa using hl)
  | e :: es, acc, s, R, hp, hl, hn, hk0, k => by
    have e0 : evalEach (e :: es) (ksEnv qual scope L f (.ref cda) cc) = eval e (ksEnv qual scope L f (.ref cda) cc) :: evalEach es (ksEnv qual scope L f (.ref cda) cc) := by first | rfl | simp [evalEach]
    rw [e0]
    have hsz : (1000000 : Nat) ≤ sizeLine := by decide
    rw [List.length_cons] at hl
    have step : ∀ (y : Str) (tk tk2 : Nat), y.length ≤ 100200 → ∃ (z : Str) (tt : Tok), (Value.str y tk : Value) = .str z tt ∧ (acc ++ z).length ≤ sizeLine ∧ Joins (model prog w) A E (evalEach es (ksEnv qual scope L f (.ref cda) cc)) (acc ++ z) R { s with toks := tk2 } := fun y tk tk2 hy => by
      have ha : (acc ++ y).length = acc.length + y.length := by rw [TL.len_tl, TL.tl_append, List.length_append, ← TL.len_tl, ← TL.len_tl]
      exact ⟨y, tk, rfl, by omega, msg_parts hu hk lf nd fm hB mv es (acc ++ y) { s with toks := tk2 } R (fun e he => hp e (List.mem_cons_of_mem _ he)) (by omega) hn hk0 fun out tk3 ho => k out tk3 ho⟩
    cases hp e List.mem_cons_self with
    | txt a kk p ha =>
      exact wpAny_Constant_str (step a _ _ (by omega))
    | fld p1 p2 =>
      refine wpAny_FormattedValue_plain (wpAny_Name (wpAny_loadName_local hk lf hn mv ?_) nd)
      exact fm A E _ _ hu hk0 fun mm tk tk2 hm => step mm tk tk2 (by omega)
/-- super() in such a def -/
theorem sup_base {attr : Str} {whole : Sem Value} {p0 p1 : Pos} {ox : Obj} {Q : Value → Shared → Prop} (F : SupF prog K C f cc cda qual fld params body scope) (S : SupT fld params body scope) (X : K.In h) (gl : h.Ns mainGlobals mg) (hms : mg "super" = none) (bl : h.Ns builtinsNs mb) (hb : mb "super" = some (.type "super"))
    (hn : h.Ns L m) (mx : m "self" = some (.ref x)) (ex : h.get? x = some ox) (hc : ox.cls = .ref C) (nc : ∀ c, ox.data ≠ .cls c) (hat : (attr == ("__class__" : Str)) = false)
    (q : ∀ h', h'.get? h.objs.size = some (PySem.W.ks_superObj C x C) → (∀ b o, h.get? b = some o → h'.get? b = some o) → Q (.ref h.objs.size) ⟨h', g, d, t, os⟩) :
    _root_.PySem.wpAt (model prog w) A (.func body (ksEnv qual scope L f (.ref cda) cc)) (attributeBase (.Call (.Name "super" p0) [] [] p1) attr (ksEnv qual scope L f (.ref cda) cc) whole) Q E ⟨h, g, d, t, os⟩ := by
  obtain ⟨oc, od, dV, kV, doc, pm, ct, an, osl, lk, _⟩ := F.fn
  obtain ⟨ccl, cdd, vs, ccs, file, tf, lc, e2, ef⟩ := F.cda
  obtain ⟨cl, cld, csl, lcell⟩ := F.cell
  obtain ⟨ar, ha, han⟩ := S.hd
  obtain ⟨nm, qn, N, bs, bm, sn, sub, ab, col, dd, k0, k1, k2, k3, k5, hC, hbm⟩ := F.oex.cls
  have oC := X _ _ hC
  have ofn := X _ _ lk
  have ocda := X _ _ lc
  refine ks_wpAt_super_base (env := ksEnv qual scope L f (.ref cda) cc) S.su S.cl hat rfl ofn rfl ha rfl ocda rfl e2 ef F.top ?_
  refine PySem.W.ks_loadName_global S.kind S.su (PySem.Calls.loadGlobal_builtin (env := ksEnv qual scope L f (.ref cda) cc) gl hms bl hb ⟨rfl, ?_⟩)
  refine wpAny_loadName_free S.kind S.cl rfl ⟨_, X _ _ lcell, rfl⟩ ?_
  rw [han]
  refine wpAny_loadName_local S.kind S.ls hn mx ?_
  refine ks_wpAny_isType_cls oC rfl ⟨rfl, ?_⟩
  refine ks_wpAny_call_super oC rfl ex hc nc ?_ q
  have hm : PySem.W.mroIn K C (.ref C) = some true := by
    unfold PySem.W.mroIn PySem.W.clsIn
    rw [hC]
    simp
  exact PySem.W.looks_mroIn X hm
/-- the bound built-in __init__, called: its arguments stand anew -/
theorem mw_call {v : Value} {uw t0 : Addr} {Q : Value → Shared → Prop} (F : SupF prog K C f cc cda qual fld params body scope) (X : K.In h) (hu : h.get? uw = some (kxs_mw "ValueError.__init__" x)) (hx : h.get? x = some (HandSPX.excO C t0))
    (q : ∀ h' t1, (∀ b o, b ≠ x → h.get? b = some o → h'.get? b = some o) → h'.get? x = some (HandSPX.excO C t1) → Q .none ⟨h', g, d, t, os⟩) : wpAny (model prog w) A (call (.ref uw) [v]) Q E ⟨h, g, d, t, os⟩ := by
  obtain ⟨nm, qn, N, bs, bm, sn, sub, ab, col, dd, k0, k1, k2, k3, k5, hC, hbm⟩ := F.oex.cls
  have FB := PySem.F.excBase_ValueError
  refine wpAny_call (codeAny_of_tree ?_)
  show wpAny _ A.in1 (callAny (.ref uw) ⟨[v], []⟩) _ _ _
  simp only [callAny]
  refine wpAny_bind (wpAny_load hu ?_)
  simp only [kxs_mw, show (Value.type "method-wrapper" == Value.type "method" || Value.type "method-wrapper" == Value.type "builtin_function_or_method" || Value.type "method-wrapper" == Value.type "method-wrapper") = true by decide, if_true]
  refine PySem.W.KFB.if_so (by decide) ?_
  refine wpAny_bind (PySem.W.check_bound_init FB.toExcCallFacts (X _ _ hC) hx rfl ?_)
  refine wpAny_bind (wpAny_pure (wpAny_pure ⟨plainId_quiet FB.init.plain _, codeAny_builtin FB.initEntry ?_⟩))
  exact PySem.W.exc_init_tree (cls := .ref C) (t0 := t0) (dv := none) (c2 := .none) (c3 := .none) (b4 := .bool false) hx (by show 1 ≤ sizeLine; decide) fun h' k1 k2 _ => q h' _ k1 k2
/-- the whole __init__ -/
theorem init_run {R : Result → Shared → Prop} {t0 : Addr} (F : SupF prog K C f cc cda qual fld params body scope) (S : SupT fld params body scope) (X : K.In h) (gl : h.Ns mainGlobals mg) (hms : mg "super" = none) (bl : h.Ns builtinsNs mb) (hb : mb "super" = some (.type "super")) (lim : h.NoLimit)
    (dep : A.depth < recursionLimit) (un : A.units + 32 < cLine) (hx : h.get? x = some (HandSPX.excO C t0)) (nx : K.lookup x = none) (fm : FmtAny prog w h x u B) (hB : B ≤ 100000)
    (q : ∀ h' tk dx t1, (∀ b o, b ≠ x → h.get? b = some o → h'.get? b = some o) → h'.get? x = some ({ cls := .ref C, dict := some dx, data := .fields #[.ref t1, .none, .none, .none, .bool false, .none] } : Obj) → h.objs.size ≤ dx → dx ≠ x →
      h'.Ns1 dx (fun y => if y = fld then some u else none) → R (.ok (.ret .none)) ⟨h', g, d, tk, os⟩) : codeAny (model prog w) A (.call (.ref f) ⟨[.ref x, u], []⟩) R ⟨h, g, d, t, os⟩ := by
  obtain ⟨oc, od, dV, kV, doc, pm, ct, an, osl, lk, bind⟩ := F.fn
  obtain ⟨p0, p1, p2, p3, p4, p5, p6, p7, p8, p9, v1, v2, r, eb, hr, hparts, hcall⟩ := S.body
  obtain ⟨nm, qn, N, bs, bm, sn, sub, ab, col, dd, k0, k1, k2, k3, k5, hC, hbm⟩ := F.oex.cls
  have hcl : PySem.W.clsIn K C = some { name := nm, bases := bs, mro := .ref C :: bm, ns := N, qualname := qn, hasDict := true, slotNames := sn, subclasses := sub, abstract := ab, collection := col, hasDel := false } := by unfold PySem.W.clsIn; rw [hC] <;> rfl
  have lf' : ∀ y ∈ [(("self" : Str), Value.ref x), (fld, u)], scope.names.lookup y.1 = some .local := fun y hy => by
    rcases List.mem_cons.mp hy with rfl | hy
    · exact S.ls
    · rw [List.mem_singleton.mp hy]
      exact S.lf
  have o0 := X _ _ lk
  refine ks_codeAny_call_defAt (fd := ksFn "__init__" qual params body scope dV kV doc pm an (.ref cda) ct cc) (body := body) (binds := [("self", .ref x), (fld, u)]) dep o0 rfl lim (PySem.W.codeRec_of X F.code) rfl (.of_eq (bind [.ref x, u] rfl)) S.noC lf' (fun h1 hns hk1 => ?_) S.co S.gen S.kind
  have mself : (fun y => ([(("self" : Str), Value.ref x), (fld, u)].reverse.lookup y)) "self" = some (.ref x) := by
    show ([(fld, u), (("self" : Str), Value.ref x)].lookup ("self" : Str)) = _
    have e : ((("self" : Str)) == fld) = false := by
      have e2 := S.ne
      rw [beq_eq_false_iff_ne] at e2 ⊢
      exact fun z => e2 z.symm
    rw [List.lookup_cons, e]
    rfl
  have mfld : (fun y => ([(("self" : Str), Value.ref x), (fld, u)].reverse.lookup y)) fld = some u := by
    show ([(fld, u), (("self" : Str), Value.ref x)].lookup fld) = _
    rw [List.lookup_cons, beq_self_eq_true]
  have hx1 := hk1 _ _ hx
  have X1 : K.In h1 := X.keeps hk1
  have ee : execs body (ksEnv qual scope h.objs.size f (.ref cda) cc) = execs [.Expr (.Call (.Attribute (.Call (.Name "super" p0) [] [] p1) "__init__" p2) [.JoinedStr (v1 :: v2 :: r) p9] [] p3) p4, .Assign [.Attribute (.Name "self" p5) fld p6] (.Name fld p7) p8] (ksEnv qual scope h.objs.size f (.ref cda) cc) := by rw [eb]
  show _root_.PySem.wpAt (model prog w) (A.deeper (ksEnv qual scope h.objs.size f (.ref cda) cc)) (.func body (ksEnv qual scope h.objs.size f (.ref cda) cc)) (execs body (ksEnv qual scope h.objs.size f (.ref cda) cc)) _ _ _
  rw [ee]
  have hint : interactive (ksEnv qual scope h.objs.size f (.ref cda) cc) = false := by
    unfold interactive
    simp [S.kind]
  obtain ⟨pl, hpl⟩ := hcall (ksEnv qual scope h.objs.size f (.ref cda) cc)
  refine ks_wpAt_execs_cons (ks_wpAt_Expr_any (hi := hint) (ks_wpAt_MethodCall (pl := pl) ?_ hpl))
  refine sup_base F S X1 (gl.keeps hk1) hms (bl.keeps hk1) hb hns mself hx1 rfl (fun c => nofun) (by decide) fun h2 e2 hk2 => ?_
  have X2 : K.In h2 := X1.keeps hk2
  have hx2 := hk2 _ _ hx1
  have I2 : PySem.W.InstAt h2 x (HandSPX.excO C t0) C none := ⟨hx2, rfl, rfl, trivial⟩
  have hup := F.up
  unfold PySem.W.ks_superIn at hup
  rw [hcl] at hup
  have hC2 : PySem.W.Looks (model prog w) h2 (mroOf (.ref C)) (.ref C :: bm) := fun A Q E s k q => wpAny_bind ((PySem.W.looks_clsIn X2 hcl) A _ E s k (wpAny_pure q))
  refine PySem.W.kxs_getMethod PySem.W.kxs_ValueError e2 (PySem.W.looks_opaque X2 F.tp) hC2 rfl X2 hup (I2.type.andThen (PySem.W.looks_subIn X2 F.isV)) (PySem.W.ks_ne X2 I2 hcl) (by decide) ?_
  have hk3 : ∀ b o, h2.get? b = some o → (h2.push (kxs_mw "ValueError.__init__" x)).get? b = some o := fun b o e => Heap.get?_push_of_some _ e
  have hu3 : (h2.push (kxs_mw "ValueError.__init__" x)).get? h2.objs.size = some (kxs_mw "ValueError.__init__" x) := Heap.get?_push_at rfl rfl
  refine PySem.W.kxs_callWith (i := "ValueError.__init__") (x := x) rfl (PySem.Calls.evalArgs_plain (PySem.Calls.spliced_cons ?_))
  refine wpAny_JoinedStr (pos := p9) (msg_parts (L := h.objs.size) (h0 := h) (by show A.units + 3 + 8 < cLine; omega) S.kind S.lf S.nd fm hB mfld (v1 :: v2 :: r) Str.empty _ _ hparts (by show 0 + _ ≤ _; omega) ((hns.keeps hk2).keeps hk3) (fun b o _ eb => hk3 _ _ (hk2 _ _ (hk1 _ _ eb))) fun out tk ho => ⟨Nat.le_trans ho (by decide), ?_⟩)
  refine PySem.Calls.spliced_nil ⟨hu3, ?_⟩
  refine mw_call F (X2.keeps hk3) hu3 (hk3 _ _ hx2) fun h4 t1 k4 hx4 => ?_
  have kall : ∀ b o, b ≠ x → h1.get? b = some o → h4.get? b = some o := fun b o hb e => k4 b o hb (hk3 _ _ (hk2 _ _ e))
  have X4 : K.In h4 := fun b o e => kall b o (fun z => by
    rw [z, nx] at e
    cases e) (X1 _ _ e)
  have hLx : h.objs.size ≠ x := Nat.ne_of_gt (Heap.lt_size hx)
  have hns4 : h4.Ns h.objs.size (fun y => [(("self" : Str), Value.ref x), (fld, u)].reverse.lookup y) := by
    obtain ⟨oL, es, ep, eL, rest⟩ := hns
    exact ⟨oL, es, ep, kall _ _ hLx eL, rest⟩
  have hsz : h.objs.size ≤ h4.objs.size := by
    obtain ⟨oL, es, ep, eL, rest⟩ := hns4
    exact Nat.le_of_lt (Heap.lt_size eL)
  show _root_.PySem.wpAt (model prog w) _ _ (execs [.Assign [.Attribute (.Name "self" p5) fld p6] (.Name fld p7) p8] (ksEnv qual scope h.objs.size f (.ref cda) cc)) _ _ _
  refine ks_wpAt_execs_cons (ks_wpAt_Assign_Attr (wpAt_of_wpAny (wpAny_Name (wpAny_loadName_local S.kind S.lf hns4 mfld (wpAny_Name (wpAny_loadName_local S.kind S.ls hns4 mself ?_))) S.nd)))
  refine PySem.W.set_plain X4 (ox := HandSPX.excO C t1) (od := none) ⟨hx4, rfl, rfl, trivial⟩ F.oex.sa ?_
  refine HandSPX.exc_osa X4 hx4 hcl (show HandSPX.refsVE (.ref C :: bm) = true from hbm) rfl F.noF fun h5 tk5 dx k5 dn dne hx5 hn5 => ?_
  refine wpAt_of_wpAny (wpAny_pure ?_)
  exact q h5 tk5 dx t1 (fun b o hb e => k5 b o hb (kall b o hb (hk1 _ _ e))) hx5 (Nat.le_trans hsz dn) dne hn5
end
end Wk
/-! ## WkY -/
/-! An own exception with one field, made and raised. -/
namespace Wk
open PySem PySem.Spec PyProof.Rows L2
open PySem.W (ksFn ksEnv kxs_mw KxsAt)
/-- values whose text in an f-string is some text -/
inductive MsgV (K : PySem.W.Frag) (H : Hp) : V → Prop
  | int (i : Int) (h : i.natAbs < 2 ^ 200) : MsgV K H (.int i)
  | str (x : Str) (h : x.length ≤ 100000) : MsgV K H (.str x)
  | tup {a : Addr} {ns : List Int} (h : SqT K H a (ns.map V.int)) (hl : ns.length ≤ 100) (hb : ∀ n ∈ ns, n.natAbs < 2 ^ 200) : MsgV K H (.ref a)
theorem repr_ints {prog : Program} {w : World} : ∀ {ns : List Int} {its : List Value}, Vals (ns.map V.int) its → (∀ n ∈ ns, n.natAbs < 2 ^ 200) → ReprAll prog w its (ns.map wI)
  | [], _, r, _ => by
    cases r
    exact .nil
  | n :: ns, _, r, h => by
    cases r with
    | cons r1 r2 =>
      obtain ⟨t, rfl⟩ := r1
      exact .cons (ReprIs.int t (log_lt (h n List.mem_cons_self))) (repr_ints r2 fun z hz => h z (List.mem_cons_of_mem _ hz))
theorem piled_ints : ∀ {ns : List Int}, (∀ n ∈ ns, n.natAbs < 2 ^ 200) → piled (ns.map wI) ≤ 64 * ns.length
  | [], _ => Nat.zero_le _
  | n :: ns, h => by
    have h1 := wI_len (h n List.mem_cons_self)
    have h2 := piled_ints fun z hz => h z (List.mem_cons_of_mem _ hz)
    rw [List.map_cons, piled_cons, List.length_cons]
    omega
theorem fmt_any {X : Cx} {pins : List (Addr × Obj)} {σ : L2.St} {H : Hp} {s : Shared} {v : V} {u : Value} {x : Addr} {h : Heap} (m : MsgV X.K H v) (I : Inv X pins σ H s) (r : RelV v u) (k : ∀ b o, s.heap.get? b = some o → h.get? b = some o) (hx : s.heap.get? x = none) :
    FmtAny X.prog X.w h x u 100000 := by
  intro A E s2 Q hu k2 q
  cases m with
  | int i hi =>
    obtain ⟨t, rfl⟩ := r
    exact wpAny_formatField_int (log_lt hi) (q _ _ _ (Nat.le_trans (wI_len hi) (by decide)))
  | str y hy =>
    obtain ⟨t, rfl⟩ := r
    exact wpAny_formatField_str (q _ _ s2.toks hy) (q _ _ _ hy) (Nat.le_trans hy (by decide))
  | @tup a ns ht hl hb =>
    cases r
    obtain ⟨its, rv, ⟨o, ho, hcl, n, hd⟩, _⟩ := I.tuple ht
    have ha : a ≠ x := fun z => by
      rw [z, hx] at ho
      cases ho
    have hp := piled_ints hb
    have htx := fmt_text (ns.map wI)
    exact fmt_tuple (ts := ns.map wI) (by omega) (k2 _ _ ha (k _ _ ho)) hcl hd (repr_ints rv hb) (Nat.le_trans (m := 100000) (by omega) (by decide)) fun m u tk hm => q _ _ _ (by omega)

section
variable {X : Cx} {pins : List (Addr × Obj)} {σ : L2.St} {H : Hp} {hp h' : Heap} {g : Array GenState} {d : Drawn} {t : Nat} {os : OsState} {a C dx t1 : Addr} {fld : Str} {v : V} {u : Value}
/-- behind the __init__: the exception with its dict -/
theorem sup_un (I : Inv X pins σ H ⟨hp, g, d, t, os⟩) (e : H a = some (exo a C Option.none)) (k : ∀ b o, b ≠ a → hp.get? b = some o → h'.get? b = some o)
    (hx : h'.get? a = some ({ cls := .ref C, dict := some dx, data := .fields #[.ref t1, .none, .none, .none, .bool false, .none] } : Obj)) (dn : hp.objs.size ≤ dx) (hn : h'.Ns1 dx (fun y => if y = fld then some u else Option.none)) (ry : RelV v u) :
    Un (frs X.stack) [] H (upd (upd H dx (exd dx [(fld, v)])) a (exo a C (some dx))) hp h' ∧ HOk X.prog X.w (upd (upd H dx (exd dx [(fld, v)])) a (exo a C (some dx))) h' := by
  have hnd : H dx = Option.none := I.hok.fresh dn
  have nd : ∀ {b : Addr} {o : Obj}, hp.get? b = some o → b ≠ dx := fun {b o} q => Nat.ne_of_lt (Nat.lt_of_lt_of_le (Heap.lt_size q) dn)
  have na : ∀ {b : Addr}, H b = Option.none → b ≠ a := fun {b} n z => by
    rw [z, e] at n
    cases n
  refine ⟨{
    keep := fun b o q n _ _ => k b o (na n) q
    slot := fun b o q n _ _ => ⟨o.slots, k b o (na n) q⟩
    free := fun b o q n _ => by rw [upd_ne (na n), upd_ne (nd q)]; exact n
    there := fun b o q _ => by
      by_cases hb : b = a
      · exact ⟨_, by rw [hb]; exact hx⟩
      · exact ⟨o, k b o hb q⟩
    tups := fun b xs q => by rw [upd_ne (at_ne e q exo_tup), upd_ne (ne_of_none q hnd)]; exact q
    frzs := fun b o v q => by rw [upd_ne (at_ne e q exo_frz), upd_ne (ne_of_none q hnd)]; exact q
    tbls := fun b ps q => ⟨#[], by rw [upd_ne (at_ne e q exo_tbl), upd_ne (ne_of_none q hnd), q]; simp⟩ }, fun b o q => ?_⟩
  by_cases hb : b = a
  · subst hb
    rw [upd_same] at q
    cases q
    exact exo_ok hx
  · rw [upd_ne hb] at q
    by_cases hd : b = dx
    · subst hd
      rw [upd_same] at q
      cases q
      exact exd_ok hn (relO_put (fs := []) ry fun g => True.intro)
    · rw [upd_ne hd] at q
      exact (I.hok b o q).stay (fun c v hc z => k c v (by
          rcases hc with hc | hc
          · rw [hc]
            exact hb
          · exact at_ne e hc exo_own) z)
        (fun c hc => by rw [upd_ne (at_ne e hc exo_own), upd_ne (ne_of_none hc hnd)]; exact hc) (fun c xs hc => by rw [upd_ne (at_ne e hc exo_tup), upd_ne (ne_of_none hc hnd)]; exact hc)
end
def tSup (K : PySem.W.Frag) (C : Addr) (fld : Str) (ta : TA) : L2.St → Hp → XK → Prop := fun σ H Q => ta σ H fun vs H1 => ∃ v, vs = [v] ∧ MsgV K H1 v ∧ ∀ dx, H1 dx = Option.none → Q (.ref C) (some dx) (upd H1 dx (.xd [(fld, v)]))
theorem pmk_sup {X : Cx} {x : Str} {C f cc cda : Addr} {qual fld : Str} {params : Arguments} {body : List Stmt} {scope : Scope} {e : Expr} {ta : TA} {p pos : Pos} (F : SupF X.prog X.K C f cc cda qual fld params body scope) (S : SupT fld params body scope) (hr : Room 2 X.A)
    (hg : Gl X x) (hm : X.mg x = some (.ref C)) (hsup : X.mg "super" = Option.none) (ha : PA X [e] ta) (hdb : (x == ("__debug__" : Str)) = false := by decide) (he : starEach [e] X.env = (false, eval e X.env) :: starEach [] X.env := by rfl) (hpl : (backTo pos (starEach [] X.env)).any (·.1) = false := by rfl) :
    PMk X (.Call (.Name x p) [e] [] pos) (tSup X.K C fld ta) := by
  intro pins s σ H Q I h
  obtain ⟨nm, q, N, bs, bm, sn, sub, ab, col, dd, k0, k1, k2, k3, k5, hC, hbm⟩ := F.oex.cls
  refine wpAny_Call_Name_kw (ld_glob I hg hm ?_ hdb)
  refine PySem.W.callWith_K (h₀ := X.base) I.ok.mod.kin F.oex.kC (thn (ha.run pos pins s σ H _ I h) fun us s1 ⟨vs, H1, I1, r1, v, ev, mv, q1⟩ => ⟨I1.kIn, ?_⟩) he hpl
  subst ev
  obtain ⟨u, rfl, ru⟩ := vals1 r1
  show wpAny _ _ (call (.ref C) [u]) _ _ _
  obtain ⟨hp, g, dr, tk, os⟩ := s1
  have hsz : hp.objs.size ≤ hp.objs.size + 1 := Nat.le_succ _
  have hn : H1 (hp.objs.size + 1) = Option.none := I1.hok.fresh hsz
  have hn1 : hp.get? (hp.objs.size + 1) = Option.none := by
    cases e : hp.get? (hp.objs.size + 1) with
    | none => rfl
    | some o => exact absurd (Heap.lt_size e) (Nat.not_lt.mpr (Nat.le_succ _))
  have kk : ∀ b o, hp.get? b = some o → ((hp.push (PySem.W.kdv_tup [u])).push (PySem.HandSPX.excO C hp.objs.size)).get? b = some o := fun b o e => Heap.get?_push_of_some _ (Heap.get?_push_of_some _ e)
  have hget : ((hp.push (PySem.W.kdv_tup [u])).push (PySem.HandSPX.excO C hp.objs.size)).get? (hp.objs.size + 1) = some (PySem.HandSPX.excO C hp.objs.size) := by heap_get
  have I2 : Inv X pins σ (upd H1 (hp.objs.size + 1) (exo (hp.objs.size + 1) C Option.none)) ⟨(hp.push (PySem.W.kdv_tup [u])).push (PySem.HandSPX.excO C hp.objs.size), g, dr, tk, os⟩ :=
    I1.laid (t' := tk) (a := hp.objs.size + 1) (o := exo (hp.objs.size + 1) C Option.none) (h' := (hp.push (PySem.W.kdv_tup [u])).push (PySem.HandSPX.excO C hp.objs.size)) kk hsz (exo_ok hget)
  have nx : X.K.lookup (hp.objs.size + 1) = Option.none := by
    cases e : X.K.lookup (hp.objs.size + 1) with
    | none => rfl
    | some o =>
      have z := I1.kIn _ _ e
      rw [show (Shared.heap ⟨hp, g, dr, tk, os⟩) = hp from rfl, hn1] at z
      cases z
  obtain ⟨mb, bl, boot⟩ := I.ok.mod.blt
  have hrm := hr.make C [u] []
  have hun := hrm.units
  refine wpAny_call (PySem.HandSPX.call_own PySem.F.excBase_ValueError (fun Y => PySem.HandSPX.refsVE_contains Y bm hbm) (I1.kIn _ _ hC) (PySem.W.looks_findIn I1.kIn F.iC) (fun self => PySem.W.bind_fn I1.kIn self F.tI) (by show 1 ≤ sizeLine; decide)
    (init_run F S I2.kIn (I.ok.mod.glob.keeps I2.bk) hsup (bl.keeps I2.bk) ((boot "super" (by decide)).trans (by decide +kernel)) I2.nolimit hrm.depth (by omega) hget nx (fmt_any mv I1 ru kk hn1) (by decide) fun h' tk' dx t1 k4 hx dn dne hns => ?_))
  refine ⟨rfl, ?_⟩
  have e : upd H1 (hp.objs.size + 1) (exo (hp.objs.size + 1) C Option.none) (hp.objs.size + 1) = some (exo (hp.objs.size + 1) C Option.none) := upd_same
  have hnd : H1 dx = Option.none := I1.hok.fresh (Nat.le_trans (Nat.le_trans hsz (Nat.le_succ _)) (by
    have z : ((hp.push (PySem.W.kdv_tup [u])).push (PySem.HandSPX.excO C hp.objs.size)).objs.size = hp.objs.size + 1 + 1 := by rw [Heap.size_push, Heap.size_push]
    rw [z] at dn
    exact dn))
  obtain ⟨un, hok⟩ := sup_un I2 e k4 hx dn hns ru
  have eH : upd (L2.del (upd (upd (upd H1 (hp.objs.size + 1) (exo (hp.objs.size + 1) C Option.none)) dx (exd dx [(fld, v)])) (hp.objs.size + 1) (exo (hp.objs.size + 1) C (some dx))) (hp.objs.size + 1)) dx (.xd [(fld, v)]) = upd H1 dx (.xd [(fld, v)]) := by
    funext b
    by_cases hb : b = dx
    · rw [hb, upd_same, upd_same]
    · rw [upd_ne hb, upd_ne hb]
      by_cases hc : b = hp.objs.size + 1
      · rw [hc, L2.del_same, hn]
      · rw [L2.del_ne hc, upd_ne hc, upd_ne hb, upd_ne hc]
  exact mk_end (raises_own F.oex.exC F.oex.tyC) I1 hsz kk un hok rfl I2.bare upd_same (by rw [upd_ne dne]; exact upd_same) hnd (by rw [eH]; exact q1 dx hnd)
end Wk
/-! ## WkZ -/
/-! Defs that raise, over data; try .. except. -/
namespace Wk
open PySem L2 Evl

/-- what is wished of an exception, by its class, its fields and what may change -/
abbrev XD := Addr → List (Str × Dt) → Mm → Prop
def RelX (K : PySem.W.Frag) (B H : Hp) (E : XK) (XP : XD) : Prop := ∀ (C dd : Addr) (fs : List (Str × V)) (gs : List (Str × Dt)) (M' : Mm) (H' H2 : Hp), XP C gs M' → Ok K B H' H2 M' → H' dd = some (.xd fs) → RpFs K H' fs gs → Ex H H' → E (.ref C) (some dd) H2
section
variable {K : PySem.W.Frag} {B H H' : Hp} {E : XK} {XP XP' : XD}
theorem RelX.mono (r : RelX K B H E XP) (e : Ex H H') : RelX K B H' E XP := fun C dd fs gs M' H2 H3 x k h f e2 => r C dd fs gs M' H2 H3 x k h f (e.trans e2)
theorem RelX.imp (r : RelX K B H E XP) (h : ∀ C gs M', XP' C gs M' → XP C gs M') : RelX K B H E XP' := fun C dd fs gs M' H2 H3 x => r C dd fs gs M' H2 H3 (h _ _ _ x)
end
section
variable (K : PySem.W.Frag) (E : XK) (XP : XD)
def EY (te : TE) (ρ : Rho) (M : Mm) (Φ : Dt → Mm → Prop) : Prop := ∀ (B H H1 : Hp) (σ : L2.St), Ok K B H H1 M → SlOk K H σ ρ → RelX K B H E XP → ∀ Q : VK,
  (∀ v d M' H' H2, Φ d M' → Ok K B H' H2 M' → Ex H H' → Rp K H' v d → Q v H2) → te σ H1 Q
def SY (t : TS) (ρ : Rho) (M : Mm) (F : Es) : Prop := ∀ (B H H1 : Hp) (σ : L2.St) (D : Ends), Ok K B H H1 M → SlOk K H σ ρ → RelX K B H E XP → RelE K B H D F → t D σ H1
end
/-- values whose text is told to be some text -/
inductive MsgD : Dt → Prop
  | int (i : Int) (h : i.natAbs < 2 ^ 200) : MsgD (.int i)
  | str (x : Str) (h : x.length ≤ 100000) : MsgD (.str x)
  | tup {ns : List Int} (hl : ns.length ≤ 100) (hb : ∀ n ∈ ns, n.natAbs < 2 ^ 200) : MsgD (.tup (ns.map Dt.int))
section
variable {K : PySem.W.Frag} {E : XK} {XP XP' : XD} {ρ : Rho} {M : Mm} {Φ : Dt → Mm → Prop} {te : TE} {ts us : TS} {F : Es} {t : TT} {wi : TI} {g : TG}
theorem MsgD.msgV {H H2 : Hp} {v : V} {d : Dt} (m : MsgD d) (r : Rp K H v d) (e : Ex H H2) : MsgV K H2 v := by
  cases m with
  | int i h =>
    rw [r.int_inv]
    exact .int i h
  | str x h =>
    rw [r.str_inv]
    exact .str x h
  | tup hl hb =>
    obtain ⟨a, xs, rfl, h1, r1⟩ := r.tup_inv
    have q := r1.ints
    subst q
    exact .tup (ex_t e h1) hl hb
theorem ey_of (h : EX K te ρ M Φ) : EY K E XP te ρ M Φ := fun B H H1 σ o s _ Q q => h B H H1 σ o s Q q
theorem sy_of (h : SX K ts ρ M F) : SY K E XP ts ρ M F := fun B H H1 σ D o s _ r => h B H H1 σ D o s r
theorem SY.imp (h : SY K E XP ts ρ M F) (k : ∀ C gs M', XP C gs M' → XP' C gs M') : SY K E XP' ts ρ M F := fun B H H1 σ D o s x r => h B H H1 σ D o s (x.imp k) r
theorem EY.mono {Ψ : Dt → Mm → Prop} (h : EY K E XP te ρ M Φ) (k : ∀ d M', Φ d M' → Ψ d M') : EY K E XP te ρ M Ψ := fun B H H1 σ o s x Q q => h B H H1 σ o s x Q fun v d M' H' H2 z => q v d M' H' H2 (k d M' z)
theorem sy_seq (h : SY K E XP ts ρ M { F with nx := fun ρ' M' => SY K E XP us ρ' M' F }) : SY K E XP (tSeq ts us) ρ M F := fun B H H1 σ D o s x r =>
  h B H H1 σ _ o s x ⟨fun ρ' M' σ' H' H2 z k s' e => z B H' H2 σ' D k s' (x.mono e) (r.mono e), r.rt, r.bk, r.ct⟩
theorem sy_seqc (Mid : Rho → Mm → Prop) (h1 : SY K E XP ts ρ M { F with nx := Mid }) (h2 : ∀ ρ' M', Mid ρ' M' → SY K E XP us ρ' M' F) : SY K E XP (tSeq ts us) ρ M F := sy_seq fun B H H1 σ D o s x r => h1 B H H1 σ D o s x ⟨fun ρ' M' σ' H' H2 z k s' e => r.nx ρ' M' σ' H' H2 (h2 ρ' M' z) k s' e, r.rt, r.bk, r.ct⟩
/-- a statement that raises nothing, then the rest -/
theorem sy_seqx (h : SX K ts ρ M { F with nx := fun ρ' M' => SY K E XP us ρ' M' F }) : SY K E XP (tSeq ts us) ρ M F := sy_seq (sy_of h)
theorem sy_if (h : TX K t ρ M (fun b M1 => (b = true → SY K E XP ts ρ M1 F) ∧ (b = false → SY K E XP us ρ M1 F))) : SY K E XP (tIfS t ts us) ρ M F := fun B H H1 σ D o s x r =>
  h B H H1 σ o s _ fun b M' H' H2 z k e => by
    cases b with
    | true => exact iteT (z.1 rfl B H' H2 σ D k (s.mono e) (x.mono e) (r.mono e))
    | false => exact iteF (z.2 rfl B H' H2 σ D k (s.mono e) (x.mono e) (r.mono e))
theorem sy_set {i : Nat} (h : EY K E XP te ρ M (fun d M1 => F.nx (ρ.set i (some d)) M1)) : SY K E XP (tAsg te (gName i)) ρ M F := fun B H H1 σ D o s x r =>
  h B H H1 σ o s x _ fun v d M' H' H2 z k e rv => r.nx _ M' _ H' H2 z k ((s.mono e).set rv) e
theorem sy_drop (h : EY K E XP te ρ M (fun _ M1 => F.nx ρ M1)) : SY K E XP (tDrop te) ρ M F := fun B H H1 σ D o s x r =>
  h B H H1 σ o s x _ fun v d M' H' H2 z k e rv => r.nx ρ M' σ H' H2 z k (s.mono e) e
theorem sy_ret (h : EY K E XP te ρ M F.rt) : SY K E XP (tRet te) ρ M F := fun B H H1 σ D o s x r => h B H H1 σ o s x _ r.rt
/-- raise C(e), C's __init__ storing it in its one field -/
def tRaise (K : PySem.W.Frag) (C : Addr) (fld : Str) (E : XK) (ta : TA) : TS := fun _ σ H => tSup K C fld ta σ H fun cls d H' => E cls d H'
theorem sy_raise {C : Addr} {fld : Str} {ta : TA} (h : AX K ta ρ M (fun ds M1 => ∃ d, ds = [d] ∧ MsgD d ∧ XP C [(fld, d)] M1)) : SY K E XP (tRaise K C fld E ta) ρ M F := fun B H H1 σ D o s x r =>
  h B H H1 σ o s _ fun vs ds M' H' H2 z k e rv => by
    obtain ⟨d, rfl, m, z⟩ := z
    cases rv with
    | @cons v' _ _ _ rv rr =>
      cases rr
      refine ⟨_, rfl, m.msgV rv k.h, fun dx hdx => ?_⟩
      have e1 := Ex.new (o := .xd [(fld, v')]) (fresh_back k.h hdx)
      exact x C dx _ _ M' _ _ z (k.grow hdx) upd_same (.cons (rv.mono e1) .nil) (e.trans e1)
theorem sy_for (h : IX K wi ρ M (fun ys G M1 => ∃ I : Nat → Rho → Mm → Prop, I 0 ρ M1 ∧ (∀ i ρ' M', i ≤ ys.length → I i ρ' M' → G M') ∧
    (∀ i d ρ' M', ys[i]? = some d → I i ρ' M' → GX K g d ρ' M' (fun ρ2 M2 => SY K E XP ts ρ2 M2 { nx := I (i + 1), rt := F.rt, ct := I (i + 1), bk := F.nx })) ∧ (∀ ρ' M', I ys.length ρ' M' → F.nx ρ' M'))) : SY K E XP (tFor wi g ts) ρ M F := fun B H H1 σ D o s x r =>
  h B H H1 σ o s _ fun J ys G M1 H' H2 z k e w => by
    obtain ⟨I, i0, ig, is, id⟩ := z
    refine ⟨fun i m σ3 H4 => m = ys.length - i ∧ i ≤ ys.length ∧ ∃ ρ' M' H3, I i ρ' M' ∧ Ok K B H3 H4 M' ∧ SlOk K H3 σ3 ρ' ∧ Ex H' H3, ⟨ys.length, by simp, Nat.zero_le _, ρ, M1, H', i0, k, s.mono e, Ex.refl _⟩, ?_⟩
    rintro i m σ3 H4 ⟨rfl, hi, ρ', M', H3, hI, k3, s3, e3⟩
    by_cases hlt : i < ys.length
    · refine .inr ⟨w.goes i B H3 H4 M' hlt k3 e3 (ig i ρ' M' hi hI), fun σ5 H6 => ∃ ρ5 M5 H5, I (i + 1) ρ5 M5 ∧ Ok K B H5 H6 M5 ∧ SlOk K H5 σ5 ρ5 ∧ Ex H' H5, ?_, fun x' H5 y => ?_⟩
      · rintro σ5 H6 ⟨ρ5, M5, H5, q1, q2, q3, q4⟩
        exact ⟨ys.length - (i + 1), by omega, rfl, hlt, ρ5, M5, H5, q1, q2, q3, q4⟩
      · obtain ⟨d, H6, y1, y2, k6, e6⟩ := w.item hlt k3 e3 (ig i ρ' M' hi hI) y
        refine is i d ρ' M' y1 hI B H6 H5 σ3 x' k6 (s3.mono e6) y2 _ fun ρ2 M2 σ2 H7 H8 z2 k7 s7 e7 => ?_
        refine z2 B H7 H8 σ2 _ k7 s7 (x.mono (((e.trans e3).trans e6).trans e7)) ⟨fun ρ5 M5 σ5 H9 H10 q k9 s9 e9 => ⟨ρ5, M5, H9, q, k9, s9, ((e3.trans e6).trans e7).trans e9⟩, fun v d M5 H9 H10 q k9 e9 r9 => r.rt v d M5 H9 H10 q k9 ((((e.trans e3).trans e6).trans e7).trans e9) r9,
          fun ρ5 M5 σ5 H9 H10 q k9 s9 e9 => r.nx ρ5 M5 σ5 H9 H10 q k9 s9 ((((e.trans e3).trans e6).trans e7).trans e9), fun ρ5 M5 σ5 H9 H10 q k9 s9 e9 => ⟨ρ5, M5, H9, q, k9, s9, ((e3.trans e6).trans e7).trans e9⟩⟩
    · have hz : i = ys.length := by omega
      subst hz
      exact .inl ⟨w.stops B H3 H4 M' k3 e3 (ig _ ρ' M' hi hI), r.nx ρ' M' σ3 H3 H4 (id ρ' M' hI) k3 s3 (e.trans e3)⟩
end

/-! ### promises of defs that may raise -/
def SpX (K : PySem.W.Frag) {α : Type} (pre : α → List Dt → Mm → Prop) (post : α → Mm → Dt → Mm → Prop) (xp : α → Mm → XD) : Sp := fun vs H1 Q E => ∃ (x : α) (B H : Hp) (M : Mm) (ds : List Dt), Ok K B H H1 M ∧ RpAll K H vs ds ∧ pre x ds M ∧
  (∀ v d M' H' H2, post x M d M' → Ok K B H' H2 M' → Ex H H' → Rp K H' v d → Q v H2) ∧ RelX K B H E (xp x M)
/-- the def's own lists are forgotten -/
abbrev subX (XP : XD) : XD := fun C gs M' => ∃ M'', Sub M'' M' ∧ XP C gs M''
section
variable {K : PySem.W.Frag} {α : Type} {pre : α → List Dt → Mm → Prop} {post : α → Mm → Dt → Mm → Prop} {xp : α → Mm → XD}
theorem enterX {N : List Str} {vs : List V} {H1 : Hp} {Q : VK} {E : XK} {t : TS} (h : SpX K pre post xp vs H1 Q E)
    (body : ∀ x ds M, pre x ds M → SY K E (subX (xp x M)) t (startD N ds) M (retE (post x M))) : t { nx := fun _ H' => Q .non H', rt := Q } (L2.start N vs) H1 := by
  obtain ⟨x, B, H, M, ds, o, r, hp, q, hx⟩ := h
  refine body x ds M hp B H H1 (L2.start N vs) _ o (slOk_start r) (fun C dd fs gs M' H' H2 z k h f e => ?_) ⟨fun ρ' M' σ' H' H2 z k s e => ?_, fun v d M' H' H2 z k e rv => ?_, fun _ _ _ _ _ z => z.elim, fun _ _ _ _ _ z => z.elim⟩
  · obtain ⟨M'', sb, z⟩ := z
    exact hx C dd fs gs M'' H' H2 z (k.sub sb) h f e
  · obtain ⟨M'', sb, z⟩ := z
    exact q .non .non M'' H' H2 z (k.sub sb) e .non
  · obtain ⟨M'', sb, z⟩ := z
    exact q v d M'' H' H2 z (k.sub sb) e rv
theorem spX_len {n : Nat} (h : ∀ x ds M, pre x ds M → ds.length = n) : ∀ vs H Q E, SpX K pre post xp vs H Q E → vs.length = n := fun vs H1 Q E ⟨x, B, H, M, ds, o, r, hp, q⟩ => by
  rw [r.length]
  exact h x ds M hp
end
section
variable {K : PySem.W.Frag} {E : XK} {XP : XD} {ρ : Rho} {M : Mm} {Φ : Dt → Mm → Prop} {ta te : TE} {t : TA} {C : Addr} {α : Type} {pre : α → List Dt → Mm → Prop} {post : α → Mm → Dt → Mm → Prop} {xp : α → Mm → XD}
theorem ey_call (h : AX K t ρ M (fun ds M1 => ∃ x, pre x ds M1 ∧ (∀ d M2, post x M1 d M2 → Φ d M2) ∧ ∀ C gs M2, xp x M1 C gs M2 → XP C gs M2)) : EY K E XP (tCall (SpX K pre post xp) [] E t) ρ M Φ := fun B H H1 σ o s x0 Q q =>
  h B H H1 σ o s _ fun vs ds M' H' H2 ⟨x, z1, z2, z3⟩ k e r => ⟨x, B, H', M', ds, k, by rw [List.append_nil]; exact r, z1, fun v d M3 H3 H4 hp k3 e3 r3 => q v d M3 H3 H4 (z2 d M3 hp) k3 (e.trans e3) r3, (x0.mono e).imp z3⟩
theorem ey_cmeth (h : EX K ta ρ M (fun x M1 => x = .raw (.ref C) ∧ AX K t ρ M1 (fun ds M2 => ∃ y, pre y (.raw (.ref C) :: ds) M2 ∧ (∀ d M3, post y M2 d M3 → Φ d M3) ∧ ∀ C gs M3, xp y M2 C gs M3 → XP C gs M3))) : EY K E XP (ClX.tCMeth C (SpX K pre post xp) E ta t) ρ M Φ := fun B H H1 σ o s x0 Q q =>
  h B H H1 σ o s _ fun v d M' H' H2 z k e r => by
    obtain ⟨rfl, z⟩ := z
    exact ⟨r.raw_inv, z B H' H2 σ k (s.mono e) _ fun vs ds M2 H3 H4 ⟨y, z1, z2, z3⟩ k2 e2 r2 => ⟨y, B, H3, M2, _, k2, .cons (.raw _) r2, z1, fun v d M3 H5 H6 hp k3 e3 r3 => q v d M3 H5 H6 (z2 d M3 hp) k3 ((e.trans e2).trans e3) r3, (x0.mono (e.trans e2)).imp z3⟩⟩
theorem ey_fld {f : Str} (h : EY K E XP te ρ M (fun x M1 => ∃ C fs d, x = .obj C fs ∧ Cls K C ∧ NoAttr K C f ∧ fs.lookup f = some d ∧ Φ d M1)) : EY K E XP (tFld K te f) ρ M Φ := fun B H H1 σ o s x0 Q q =>
  h B H H1 σ o s x0 _ fun v d M' H' H2 z k e r => by
    obtain ⟨C, fs, d, rfl, c, n, l, z⟩ := z
    obtain ⟨a, dx, gs, rfl, h1, r1⟩ := r.obj_inv
    obtain ⟨v, l2, r2⟩ := r1.lookup l
    exact ⟨a, C, dx, gs, v, rfl, k.h _ _ h1, c, n, l2, q v d M' H' H2 z k e r2⟩
/-- C(*e), where __init__ may raise -/
theorem ey_makeS (h : EX K te ρ M (fun d M1 => ∃ xs G, WSrc M1 d xs G ∧ ∀ x, M1 x = none → ∃ y, pre y (.raw (.ref x) :: xs) (put M1 x (.ins C [])) ∧ (∀ d M2, post y (put M1 x (.ins C [])) d M2 → d = .non ∧ Φ (.raw (.ref x)) M2) ∧ ∀ C' gs M2, xp y (put M1 x (.ins C [])) C' gs M2 → XP C' gs M2)) :
    EY K E XP (tMakeS K C (SpX K pre post xp) E te) ρ M Φ := fun B H H1 σ o s x0 Q q =>
  h B H H1 σ o s _ fun v d M' H' H2 z k e r => by
    obtain ⟨xs, G, hs, z⟩ := z
    obtain ⟨a, us, rfl, h1, r1⟩ := lst_src hs k r
    refine ⟨a, us, rfl, src_or h1, fun x dx hx hdx ne => ?_⟩
    obtain ⟨y, z1, z2, z4⟩ := z x (k.noMem hx)
    have k1 := k.grow (o := .own x) hdx
    have e1 := Ex.new (o := .own x) (fresh_back k.h hdx)
    have hx1 : upd H2 dx (.own x) x = none := by
      rw [upd_ne ne.symm]
      exact hx
    have k2 := k1.cell (o := .ins C dx []) (c := .ins C []) hx1 ⟨dx, [], upd_same, .nil⟩
    exact ⟨y, B, _, _, _, k2, .cons (.raw _) (r1.mono e1), z1, (fun v d M3 H5 H6 hp k3 e3 r3 => by
      obtain ⟨rfl, z3⟩ := z2 d M3 hp
      exact ⟨r3.non_inv, q _ _ _ _ _ z3 k3 (e.trans (e1.trans e3)) (.raw _)⟩), (x0.mono (e.trans e1)).imp z4⟩
theorem ey_makeV {tf : TE} (h : EX K tf ρ M (fun c M0 => c = .raw (.ref C) ∧ EY K E XP (tMakeS K C (SpX K pre post xp) E te) ρ M0 Φ)) : EY K E XP (tMakeV K C (SpX K pre post xp) E tf te) ρ M Φ := fun B H H1 σ o s x0 Q q =>
  h B H H1 σ o s _ fun v d M' H' H2 z k e r => by
    obtain ⟨rfl, z⟩ := z
    exact ⟨r.raw_inv, z B H' H2 σ k (s.mono e) (x0.mono e) Q fun v d M3 H3 H4 z3 k3 e3 r3 => q v d M3 H3 H4 z3 k3 (e.trans e3) r3⟩
theorem ey_makeA (h : AX K t ρ M (fun xs M1 => ∀ x, M1 x = none → ∃ y, pre y (.raw (.ref x) :: xs) (put M1 x (.ins C [])) ∧ (∀ d M2, post y (put M1 x (.ins C [])) d M2 → d = .non ∧ Φ (.raw (.ref x)) M2) ∧ ∀ C' gs M2, xp y (put M1 x (.ins C [])) C' gs M2 → XP C' gs M2)) :
    EY K E XP (StX.tMakeR C (SpX K pre post xp) E t) ρ M Φ := fun B H H1 σ o s x0 Q q =>
  h B H H1 σ o s _ fun vs ds M' H' H2 z k e r => by
    intro x dx hx hdx ne
    obtain ⟨y, z1, z2, z4⟩ := z x (k.noMem hx)
    have k1 := k.grow (o := .own x) hdx
    have e1 := Ex.new (o := .own x) (fresh_back k.h hdx)
    have hx1 : upd H2 dx (.own x) x = none := by
      rw [upd_ne ne.symm]
      exact hx
    have k2 := k1.cell (o := .ins C dx []) (c := .ins C []) hx1 ⟨dx, [], upd_same, .nil⟩
    exact ⟨y, B, _, _, _, k2, .cons (.raw _) (r.mono e1), z1, (fun v d M3 H5 H6 hp k3 e3 r3 => by
      obtain ⟨rfl, z3⟩ := z2 d M3 hp
      exact ⟨r3.non_inv, q _ _ _ _ _ z3 k3 (e.trans (e1.trans e3)) (.raw _)⟩), (x0.mono (e.trans e1)).imp z4⟩
/-- o.m(..), which may raise -/
theorem ey_meth {m : Str} (h : EX K te ρ M (fun x M1 => ∃ fs, x = .obj C fs ∧ fs.lookup m = none ∧ AX K t ρ M1 (fun ds M2 => ∃ y, pre y (.obj C fs :: ds) M2 ∧ (∀ d M3, post y M2 d M3 → Φ d M3) ∧ ∀ C' gs M3, xp y M2 C' gs M3 → XP C' gs M3))) :
    EY K E XP (tMeth C m (SpX K pre post xp) [] E te t) ρ M Φ := fun B H H1 σ o s x0 Q q =>
  h B H H1 σ o s _ fun v d M' H' H2 z k e r => by
    obtain ⟨fs, rfl, hn, z⟩ := z
    obtain ⟨a, dx, gs, rfl, h1, r1⟩ := r.obj_inv
    refine ⟨a, dx, gs, rfl, k.h _ _ h1, r1.lookupN hn, z B H' H2 σ k (s.mono e) _ fun vs ds M2 H3 H4 z2 k2 e2 r2 => ?_⟩
    obtain ⟨y, z2, z3, z4⟩ := z2
    exact ⟨y, B, H3, M2, .obj C fs :: ds, k2, by rw [List.append_nil]; exact .cons (r.mono e2) r2, z2, fun v d M3 H5 H6 hp k3 e3 r3 => q v d M3 H5 H6 (z3 d M3 hp) k3 ((e.trans e2).trans e3) r3, (x0.mono (e.trans e2)).imp z4⟩
theorem ey_frzI (h : EY K E XP te ρ M (fun d M1 => ∃ a C fs, d = .raw (.ref a) ∧ M1 a = some (.ins C fs) ∧ Φ (.obj C fs) (del M1 a))) : EY K E XP te ρ M Φ := fun B H H1 σ o s x0 Q q =>
  h B H H1 σ o s x0 Q fun v d M' H' H2 z k e r => by
    obtain ⟨a, C, fs, rfl, hm, hk⟩ := z
    obtain ⟨h1, h2, dx, vs, h3, h4⟩ := k.m a _ hm
    obtain ⟨k', e'⟩ := k.freeze hm h3
    rw [r.raw_inv]
    exact q _ _ _ _ _ hk k' (e.trans e') (.obj upd_same (h4.mono e'))
end

/-! ### promises as facts -/
section
variable (P : Program) (w : World) (K : PySem.W.Frag) (mg : Str → Option Value) (base : Heap) (k : Nat) (C : Addr)
structure CalX (x : Str) (sp : Sp) : Prop where
  ex : ∃ (f : Addr) (fd : FuncData) (ps : List Str), FnOk P w K mg base (L2.CX P w) k f fd ps sp ∧ mg x = some (.ref f) ∧ PySem.W.keepIn K (.ref f) = true ∧ Binds K fd ps []
structure CmtX (m : Str) (sp : Sp) : Prop where
  ex : ∃ mc p g, ClX.CRead K C mc ∧ ClX.CMet K C mc m p g ∧ FnR P w K mg base (L2.CX P w) k g sp
structure MkX (x : Str) (sp : Sp) : Prop where
  gl : mg x = some (.ref C)
  ex : ∃ f, Mk K C f ∧ FnR P w K mg base (L2.CX P w) k f sp
structure MetX (m : Str) (sp : Sp) : Prop where
  cl : Cls K C
  ex : ∃ f, Meth K C m f ∧ FnR P w K mg base (L2.CX P w) k f sp
end
section
variable {X : Cx} {k j : Nat} {C : Addr} {x m : Str} {sp : Sp} {p pos apos sp_ : Pos} {e o fe : Expr} {es : List Expr} {ta te tf : TE} {t : TA} {E : XK}
theorem pe_cX (c : CalX X.prog X.w X.K X.mg X.base k x sp) (hx : Passes (L2.CX X.prog X.w) X E) (hr : Room j X.A) (hk : k ≤ j) (hg : Gl X x) (ha : PA X (e :: es) t)
    (hdb : (x == ("__debug__" : Str)) = false := by decide) (he : starEach (e :: es) X.env = (false, eval e X.env) :: starEach es X.env := by rfl) (hpl : (backTo pos (starEach es X.env)).any (·.1) = false := by rfl) :
    PE X (.Call (.Name x p) (e :: es) [] pos) (tCall sp [] E t) := by
  obtain ⟨f, fd, ps, F, hm, kp, b⟩ := c.ex
  exact pe_call F (hr.mono hk) hg hm kp b .nil hx ha hdb he hpl
theorem pe_cmX {pl : Sem Bool} (c : CmtX X.prog X.w X.K X.mg X.base k C m sp) (hx : Passes (L2.CX X.prog X.w) X E) (hr : Room j X.A) (hk : k ≤ j) (he : PE X o ta) (ha : PA X (e :: es) t)
    (hst : starEach (e :: es) X.env = (false, eval e X.env) :: starEach es X.env := by rfl) (hpl : (backTo pos (starEach es X.env)).any (·.1) = false := by rfl)
    (ht : eval (.Call (.Attribute o m apos) (e :: es) [] pos) X.env = (do
      let ov ← eval o X.env
      standAt apos.atName
      let (f, first) ← holding [ov] (getMethod ov m pl)
      callWith pos f first (backTo pos (starEach (e :: es) X.env)) (backToKw pos (keywordEach [] X.env))) := by rfl) :
    PE X (.Call (.Attribute o m apos) (e :: es) [] pos) (ClX.tCMeth C sp E ta t) := by
  obtain ⟨mc, p, g, r, hm, F⟩ := c.ex
  exact ClX.pe_cmeth he r hm F (hr.mono hk) hx ha hst hpl ht
theorem pe_mX {pl : Sem Bool} (c : MetX X.prog X.w X.K X.mg X.base k C m sp) (hx : Passes (L2.CX X.prog X.w) X E) (hr : Room j X.A) (hk : k ≤ j) (he : PE X o ta) (ha : PA X (e :: es) t)
    (hst : starEach (e :: es) X.env = (false, eval e X.env) :: starEach es X.env := by rfl) (hpl : (backTo pos (starEach es X.env)).any (·.1) = false := by rfl)
    (ht : eval (.Call (.Attribute o m apos) (e :: es) [] pos) X.env = (do
      let ov ← eval o X.env
      standAt apos.atName
      let (f, first) ← holding [ov] (getMethod ov m pl)
      callWith pos f first (backTo pos (starEach (e :: es) X.env)) (backToKw pos (keywordEach [] X.env))) := by rfl) :
    PE X (.Call (.Attribute o m apos) (e :: es) [] pos) (tMeth C m sp [] E ta t) := by
  obtain ⟨f, hm, F⟩ := c.ex
  exact pe_methR he c.cl hm F (hr.mono hk) hx ha hst hpl ht
theorem pe_mkXS (c : MkX X.prog X.w X.K X.mg X.base k C x sp) (hx : Passes (L2.CX X.prog X.w) X E) (hr : Room j X.A) (hk : k + 1 ≤ j) (hg : Gl X x) (he : PE X e te) (hd : (x == ("__debug__" : Str)) = false := by decide)
    (hst : starEach [.Starred e sp_] X.env = [(true, eval e X.env)] := by rfl) : PE X (.Call (.Name x p) [.Starred e sp_] [] pos) (tMakeS X.K C sp E te) := by
  obtain ⟨f, M, F⟩ := c.ex
  exact pe_makeS M F (hr.mono hk) hg c.gl hx he hd hst
theorem pe_mkXV (c : MkX X.prog X.w X.K X.mg X.base k C x sp) (hx : Passes (L2.CX X.prog X.w) X E) (hr : Room j X.A) (hk : k + 1 ≤ j) (hf : PE X fe tf) (he : PE X e te)
    (hst : starEach [.Starred e sp_] X.env = [(true, eval e X.env)] := by rfl)
    (ht : eval (.Call fe [.Starred e sp_] [] pos) X.env = (do callWith pos (← eval fe X.env) [] (backTo pos (starEach [.Starred e sp_] X.env)) (backToKw pos (keywordEach [] X.env))) := by rfl) : PE X (.Call fe [.Starred e sp_] [] pos) (tMakeV X.K C sp E tf te) := by
  obtain ⟨f, M, F⟩ := c.ex
  exact pe_makeV M F (hr.mono hk) hx hf he hst ht
theorem pe_mkXA (c : MkX X.prog X.w X.K X.mg X.base k C x sp) (hx : Passes (L2.CX X.prog X.w) X E) (hr : Room j X.A) (hk : k + 1 ≤ j) (hg : Gl X x) (ha : PA X (e :: es) t) (hdb : (x == ("__debug__" : Str)) = false := by decide)
    (he : starEach (e :: es) X.env = (false, eval e X.env) :: starEach es X.env := by rfl) (hpl : (backTo pos (starEach es X.env)).any (·.1) = false := by rfl) : PE X (.Call (.Name x p) (e :: es) [] pos) (StX.tMakeR C sp E t) := by
  obtain ⟨f, M, F⟩ := c.ex
  exact StX.pe_makeR M F (hr.mono hk) hg c.gl hx ha hdb he hpl
/-- what a callee lets out leaves the def -/
theorem pX {X : Cx} {E : XK} (tk : Takes X (fun cls d _ H => E cls d H)) : Passes (L2.CX X.prog X.w) X E := passes_call tk fun _ _ _ _ h => h
/-- .. comes to the clauses around -/
def EW (n : Nat) (W : WX) : XK := fun cls d H => ∀ σ : L2.St, σ.length = n → W cls d σ H
theorem pW {X : Cx} {W : WX} {n : Nat} (hn : X.N.length = n) (tk : Takes X W) : Passes (L2.CX X.prog X.w) X (EW n W) := fun pins σ H s e s' I c => tk e s' (XE.of_call I (fun cls d H' h => h σ (I.len.trans hn)) c)
end
/-- raise C(e) -/
structure Sup1 (P : Program) (K : PySem.W.Frag) (mg : Str → Option Value) (x fld : Str) (C : Addr) : Prop where
  gl : mg x = some (.ref C)
  ns : mg "super" = none
  ex : ∃ (f cc cda : Addr) (qual : Str) (params : Arguments) (body : List Stmt) (scope : Scope), SupF P K C f cc cda qual fld params body scope ∧ SupT fld params body scope
theorem ps_raiseS {X : Cx} {x fld : Str} {C : Addr} {E : XK} {e : Expr} {ta : TA} {p pos pos' : Pos} {j : Nat} (c : Sup1 X.prog X.K X.mg x fld C) (hc : X.calm = true) (tk : Takes X (fun cls d _ H => E cls d H)) (hr : Room j X.A) (hk : 2 ≤ j) (hg : Gl X x) (ha : PA X [e] ta)
    (hdb : (x == ("__debug__" : Str)) = false := by decide) (he : starEach [e] X.env = (false, eval e X.env) :: starEach [] X.env := by rfl) (hpl : (backTo pos (starEach [] X.env)).any (·.1) = false := by rfl) :
    PS X (.Raise (some (.Call (.Name x p) [e] [] pos)) none pos') (tRaise X.K C fld E ta) := by
  obtain ⟨f, cc, cda, qual, params, body, scope, F, S⟩ := c.ex
  exact ps_raise hc tk (pmk_sup F S (hr.mono hk) hg c.gl c.ns ha hdb he hpl)

/-! ### try: body, except D as n: suite -/
def tTry (K : PySem.W.Frag) (c : Value) (i : Nat) (tb : WX → TS) (ts : Addr → Value → Option Addr → TS) : TS := fun D σ H => tb (wAs K c i ts (fun _ _ _ _ => False) D) D σ H
section
open PySem.Spec PyProof.Rows
theorem ps_tryA {X : Cx} {x n : Str} {c : Value} {i : Nat} {body suite : List Stmt} {b₀ : Stmt} {np pos pos' : Pos} {tb : WX → TS} {ts : Addr → Value → Option Addr → TS} (hs : X.stack = X.env :: X.outer) (hf : X.env.frame = some X.env.locals) (hN : X.N.Nodup) (hi : X.N[i]? = some n) (hln : X.env.kindOf n = some .local) (hg : Gl X x) (hd : (x == ("__debug__" : Str)) = false) (hm : X.mg x = some c)
    (hb : ∀ (W : WX) (pn : List (Addr × Obj)) (xe : Value → Shared → Prop), Takes (X.tr pn xe) W → PassesOwn (model X.prog X.w) X.A X.env xe → PSs (X.tr pn xe) body (tb W))
    (hsu : ∀ (a : Addr) (oe : Obj) (cls : Value) (d : Option Addr) (pn : List (Addr × Obj)), Zc cls d oe → (∃ vs, oe.data = .fields vs) → PSs (X.suite a ((a, oe) :: pn)) (b₀ :: suite) (ts a cls d)) :
    PS X (.Try body [.ExceptHandler (some (.Name x np)) (some n) (b₀ :: suite) pos'] [] [] pos) (tTry X.K c i tb ts) := ps_try_as (x := x) (n := n) (c := c) hs hf hN hi hln ⟨hg, hd, .inl hm⟩ takes0 hb hsu
end
section
variable {K : PySem.W.Frag} {ρ : Rho} {M : Mm} {F : Es} {tb : WX → TS} {ts : Addr → Value → Option Addr → TS} {D : Addr} {i n : Nat}
def exS (F : Es) (i : Nat) : Es := ⟨fun ρ' M' => F.nx (ρ'.set i none) M', F.rt, fun ρ' M' => F.bk (ρ'.set i none) M', fun ρ' M' => F.ct (ρ'.set i none) M'⟩
theorem SlOk.setN {H : Hp} {σ : L2.St} {ρ : Rho} (s : SlOk K H σ ρ) (i : Nat) : SlOk K H (σ.set i none) (ρ.set i none) := by
  have q := s.wipe [i]
  unfold L2.wipe at q
  exact q
theorem slOk_none {H : Hp} {σ : L2.St} {n : Nat} (h : σ.length = n) : SlOk K H σ (List.replicate n none) := ⟨by rw [h, List.length_replicate], fun j d e => by
  rw [List.getElem?_replicate] at e
  split at e <;> cases e⟩
theorem sx_try (XP : XD) (hb : ∀ W : WX, SY K (EW n W) XP (tb W) ρ M F)
    (hs : ∀ C gs M', XP C gs M' → PySem.W.exmOne K (.ref C) (.ref D) = some true ∧ ∀ a dd, SX K (ts a (.ref C) (some dd)) ((List.replicate n none).set i (some (.exc a dd gs))) M' (exS F i)) :
    SX K (tTry K (.ref D) i tb ts) ρ M F := fun B H H1 σ D' o s r => by
  refine hb _ B H H1 σ D' o s (fun C dd fs gs M' H' H2 z k hd hf e σ' hl => ?_) r
  obtain ⟨h1, h2⟩ := hs C gs M' z
  refine ⟨true, h1, fun _ a ha => ?_, fun e => by cases e⟩
  refine h2 a dd B H' H2 _ _ k ((slOk_none hl).set (.exc hd hf)) ⟨fun ρ' M2 σ2 H3 H4 z2 k2 s2 e2 => r.nx _ M2 _ H3 H4 z2 k2 (s2.setN i) (e.trans e2), fun v d M2 H3 H4 z2 k2 e2 r2 => r.rt v d M2 H3 H4 z2 k2 (e.trans e2) r2,
    fun ρ' M2 σ2 H3 H4 z2 k2 s2 e2 => r.bk _ M2 _ H3 H4 z2 k2 (s2.setN i) (e.trans e2), fun ρ' M2 σ2 H3 H4 z2 k2 s2 e2 => r.ct _ M2 _ H3 H4 z2 k2 (s2.setN i) (e.trans e2)⟩
end
/-! e.f and isinstance(e, ..) of the caught exception -/
open PySem.Spec PyProof.Rows in
def tXfA (K : PySem.W.Frag) (a : Addr) (cls : Value) (d : Option Addr) (f : Str) (te : TE) : TE := fun σ H Q => te σ H fun x H1 => ∃ C, cls = .ref C ∧ XfC K C ∧ PySem.W.findIn K (.ref C) f = some none ∧ x = .ref a ∧ ∃ (dd : Addr) (fs : List (Str × V)) (v : V), d = some dd ∧ H1 dd = some (.xd fs) ∧ fs.lookup f = some v ∧ Q v H1
/-- what the class of the caught one says, so that isinstance asks it rightly -/
structure ExcK (K : PySem.W.Frag) (C : Addr) : Prop where
  xf : XfC K C
  hcl : (PySem.W.clsIn K C).isSome = true
  ha : PySem.W.findIn K (.ref C) "__class__" = some (some (.builtin "object.__class__"))
  hn : PySem.W.specialIn K (.builtin "object.__class__") "__get__" = some (some (.builtin "getset_descriptor.__get__"))
  ht : PySem.W.takesIn K (.builtin "object.__class__") = some true
  hm : PySem.W.mroIn K C (.type "object") = some true
def rIsX (K : PySem.W.Frag) (cls : Value) (d : Option Addr) (a : Addr) : List V → Hp → VK → Prop := fun xs H Q => ∃ (c : V) (C dd : Addr) (fs : List (Str × V)) (b : Bool), xs = [.ref a, c] ∧ cls = .ref C ∧ d = some dd ∧ H dd = some (.xd fs) ∧ ExcK K C ∧
  ((∃ D, c = .ref D ∧ PySem.W.kitOne K (.ref C) (.ref D) = some b) ∨ ∃ (tp : Addr) (Ds : List Addr), c = .ref tp ∧ SqT K H tp (Ds.map V.ref) ∧ PySem.W.kitAny K (.ref C) (Ds.map Value.ref) = some b) ∧ Q (.bl b) H
section
open PySem.Spec PyProof.Rows
variable {X : Cx} {a : Addr} {oe : Obj} {cls : Value} {d : Option Addr} {pn : List (Addr × Obj)}
theorem exc_at {pins : List (Addr × Obj)} {σ : L2.St} {H : Hp} {s : Shared} {C dd : Addr} {fs : List (Str × V)} (I : Inv (X.suite a ((a, oe) :: pn)) pins σ H s) (hz : Zc (.ref C) (some dd) oe) (hf : ∃ vs, oe.data = .fields vs) (ea : H dd = some (.xd fs)) :
    ∃ (od : Obj) (mA : Str → Option Value), PySem.W.InstAt s.heap a oe C (some od) ∧ (∀ f, RelO (fs.lookup f) (mA f)) ∧ ∀ f, PySem.W.lookIn f od = some (mA f) := by
  obtain ⟨ha, _⟩ := I.pin (a, oe) (List.mem_append_left _ List.mem_cons_self)
  obtain ⟨vs, hd⟩ := hf
  have hx : ObjOk X.prog X.w H s.heap dd (.xd fs) := I.hok dd _ ea
  obtain ⟨mA, hns, hr⟩ := hx
  obtain ⟨od, ho, hl⟩ := lookIn_ns hns
  exact ⟨od, mA, ⟨ha, hz.1, by unfold PySem.W.notCls; rw [hd] <;> rfl, by rw [hz.2]; exact ho⟩, hr, hl⟩
theorem pe_xfA {e : Expr} {te : TE} {pos : Pos} {n : Str} (hz : Zc cls d oe) (hf : ∃ vs, oe.data = .fields vs) (he : PE (X.suite a ((a, oe) :: pn)) e te) (hb : attributeBase e n X.env (eval e X.env) = eval e X.env := by rfl) :
    PE (X.suite a ((a, oe) :: pn)) (.Attribute e n pos) (tXfA X.K a cls d n te) := by
  refine ⟨fun pins s σ H Q I h => ?_⟩
  refine attr_of hb (thn (he.run pins s σ H _ I h) fun u s1 hh => ?_)
  obtain ⟨x, H1, I1, rx, C, ec, T, hno, ex, dd, fs, v, ed, ea, l, q⟩ := hh
  subst ex
  obtain rfl : u = Value.ref a := rx
  subst ec
  subst ed
  obtain ⟨od, mA, J, hr, hl⟩ := exc_at I1 hz hf ea
  obtain ⟨u, hu, ru⟩ := RelO.some_of (v := v) (o := mA n) (by rw [← l]; exact hr n)
  exact HandSPX.exc_get I1.kIn J T.ga T.gg T.exC (PySem.W.findObj_own T.hdC hno rfl (by rw [hl, hu])) (handed_of ru) ⟨v, H1, I1.tok _, ru, q⟩
theorem refs_vals : ∀ {Ds : List Addr} {its : List Value}, Vals (Ds.map V.ref) its → its = Ds.map Value.ref
  | [], _, r => by
    cases r
    rfl
  | D :: Ds, _, r => by
    cases r with
    | cons r1 r2 =>
      rw [show _ = Value.ref D from r1, refs_vals r2]
      rfl
theorem call_isX (hz : Zc cls d oe) (hf : ∃ vs, oe.data = .fields vs) : CallR (X.suite a ((a, oe) :: pn)) (.builtin "isinstance") (rIsX X.K cls d a) := by
  intro pins s σ H xs us Q I r h
  obtain ⟨c, C, dd, fs, b, rfl, rfl, rfl, ea, T, hc, q⟩ := h
  obtain ⟨u1, u2, rfl, r1, r2⟩ := vals2 r
  cases (show u1 = Value.ref a from r1)
  obtain ⟨od, mA, J, hr, hl⟩ := exc_at I hz hf ea
  have Z := PySem.W.kitx_exc (x := a) (ox := oe) (od := some od) T.hcl T.xf.ga T.xf.gg T.xf.exC T.ha T.hn T.ht T.hm
  rcases hc with ⟨D, rfl, e⟩ | ⟨tp, Ds, rfl, ht, e⟩
  · cases (show u2 = Value.ref D from r2)
    exact PySem.W.kia_one Z I.kIn J e (fun z => nomatch z) fun tk => ⟨.bl b, H, I.tok tk, rfl, q⟩
  · cases (show u2 = Value.ref tp from r2)
    obtain ⟨its, rv, ⟨o, h1, h2, n, h3⟩, _⟩ := I.tuple ht
    have e3 := refs_vals rv
    subst e3
    obtain ⟨oc, od, dt, sl⟩ := o
    simp only at h2 h3
    subst h2 h3
    exact PySem.W.kia_tup Z I.kIn J h1 e (fun z => nomatch z) fun tk => ⟨.bl b, H, I.tok tk, rfl, q⟩
end
section
variable {K : PySem.W.Frag} {ρ : Rho} {M : Mm} {Φ : Dt → Mm → Prop} {te : TE} {C a dd : Addr} {gs : List (Str × Dt)} {b : Bool}
theorem ex_xfA {f : Str} (T : XfC K C) (hno : PySem.W.findIn K (.ref C) f = some none) (h : EX K te ρ M (fun x M1 => ∃ d, x = .exc a dd gs ∧ gs.lookup f = some d ∧ Φ d M1)) : EX K (tXfA K a (.ref C) (some dd) f te) ρ M Φ := fun B H H1 σ o s Q q =>
  h B H H1 σ o s _ fun v x M' H' H2 z k e r => by
    obtain ⟨d, rfl, l, z⟩ := z
    obtain ⟨rfl, fs, h1, r1⟩ := r.exc_inv
    obtain ⟨v, l2, r2⟩ := r1.lookup l
    exact ⟨C, rfl, T, hno, rfl, dd, fs, v, rfl, k.h _ _ h1, l2, q v d M' H' H2 z k e r2⟩
theorem cx_isX {D : Addr} (T : ExcK K C) (e : PySem.W.kitOne K (.ref C) (.ref D) = some b) (k : Φ (.bl b) M) : CX K (rIsX K (.ref C) (some dd) a) [.exc a dd gs, .raw (.ref D)] M Φ := fun B H H1 vs o r Q q => by
  cases r with
  | cons r rr =>
    cases rr with
    | cons r2 rr =>
      cases rr
      obtain ⟨rfl, fs, h1, r1⟩ := r.exc_inv
      obtain rfl := r2.raw_inv
      exact ⟨_, C, dd, fs, b, rfl, rfl, rfl, o.h _ _ h1, T, .inl ⟨D, rfl, e⟩, q _ _ _ _ _ k o (Ex.refl H) (.bl b)⟩
theorem raws_refs {H : Hp} : ∀ {Ds : List Addr} {xs : List V}, RpAll K H xs (Ds.map fun D => Dt.raw (.ref D)) → xs = Ds.map V.ref
  | [], _, .nil => rfl
  | D :: Ds, _, .cons h r => by rw [h.raw_inv, raws_refs r] <;> rfl
theorem cx_isXT {xs : List Dt} (Ds : List Addr) (hx : xs = Ds.map fun D => Dt.raw (.ref D)) (T : ExcK K C) (e : PySem.W.kitAny K (.ref C) (Ds.map Value.ref) = some b) (k : Φ (.bl b) M) : CX K (rIsX K (.ref C) (some dd) a) [.exc a dd gs, .tup xs] M Φ := fun B H H1 vs o r Q q => by
  subst hx
  cases r with
  | cons r rr =>
    cases rr with
    | cons r2 rr =>
      cases rr
      obtain ⟨rfl, fs, h1, r1⟩ := r.exc_inv
      obtain ⟨tp, us, rfl, h2, r2⟩ := r2.tup_inv
      have eu := raws_refs r2
      subst eu
      exact ⟨_, C, dd, fs, b, rfl, rfl, rfl, o.h _ _ h1, T, .inr ⟨tp, Ds, rfl, ex_t o.h h2, e⟩, q _ _ _ _ _ k o (Ex.refl H) (.bl b)⟩
end
/-! defs with *v that may raise -/
section
open PySem.Spec PyProof.Rows
variable {P : Program} {w : World} {K : PySem.W.Frag} {mg : Str → Option Value} {base : Heap} {k : Nat} {f D : Addr} {x qual : Str} {st : Stmt} {fd : FuncData} {N ps : List Str} {sp : Sp} {pv kw : Str} {dv : V} {du : Value}
theorem fun_starX (F : Fun K x qual st f fd) (S : FnScope N (ps ++ [pv]) (defScope st)) (hb : BindS x qual st ps pv)
    (hbody : ∀ (cdv : Value) (A : Around) (outer : List Env) (s : Shared) (H : Hp) (vs : List V) (Q : VK) (E : XK), Room k (A.deeper (envOfC qual (defScope st) s.heap.objs.size f cdv)) → sp vs H Q E →
      ∃ t, PSs (cxOf (L2.CX P w) P w K mg base N qual (defScope st) f cdv A outer s H E) (defBody st) t ∧ t { nx := fun _ H' => Q .non H', rt := Q } (start N vs) H) :
    FnR P w K mg base (L2.CX P w) (k + 1) f (fun vs H Q E => ∃ ws rest, vs = ws ++ rest ∧ ws.length = ps.length ∧ rest.length ≤ sizeLine ∧ ∀ p, H p = Option.none → sp (ws ++ [V.ref p]) (upd H p (.tup rest)) Q E) := by
  obtain ⟨oc, od, kV, doc, pm, an, cdv, ct, osl, rfl, lk, hcd⟩ := F.ex
  exact StX.fn_star lk hcd S StX.cxUp (hb kV doc pm an cdv ct) fun A outer s H vs Q E hr hsp => hbody cdv A outer s H vs Q E hr hsp
open Evl in
theorem starX {K : PySem.W.Frag} {α : Type} {pre pre' : α → List Dt → Mm → Prop} {post : α → Mm → Dt → Mm → Prop} {xp : α → Mm → XD} {n : Nat} {vs : List V} {H1 : Hp} {Q : VK} {E : XK} (hp : ∀ x ds M, pre' x ds M → ∃ hd tl, ds = hd ++ tl ∧ hd.length = n ∧ tl.length ≤ sizeLine ∧ pre x (hd ++ [.tup tl]) M)
    (h : SpX K pre' post xp vs H1 Q E) : ∃ ws rest, vs = ws ++ rest ∧ ws.length = n ∧ rest.length ≤ sizeLine ∧ ∀ p, H1 p = Option.none → SpX K pre post xp (ws ++ [V.ref p]) (upd H1 p (.tup rest)) Q E := by
  obtain ⟨x, B, H, M, ds, o, r, hpre, q, qx⟩ := h
  obtain ⟨hd, tl, rfl, h1, h2, h3⟩ := hp x ds M hpre
  refine ⟨vs.take n, vs.drop n, (List.take_append_drop n vs).symm, ?_, ?_, fun p hpn => ?_⟩
  · have e := r.length
    rw [List.length_append] at e
    rw [List.length_take]
    omega
  · have e := r.length
    rw [List.length_append] at e
    rw [List.length_drop]
    omega
  · have r1 := r.take n
    have r2 := r.drop n
    rw [List.take_left' h1] at r1
    rw [List.drop_left' h1] at r2
    have e1 := Ex.new (o := .tup (vs.drop n)) (fresh_back o.h hpn)
    exact ⟨x, B, _, M, _, o.grow hpn, (r1.mono e1).append (.one (.tup (st_of upd_same) (r2.mono e1))), h3, (fun v d M' H' H2 z k e r => q v d M' H' H2 z k (e1.trans e) r), qx.mono e1⟩
end
end Wk
/-! ## WkT -/
namespace Wk
open PySem L2 Evl
def top (i : Nat) : Stmt := PySem.Challenge.pw_walkagon_k03_invalid_polygons.main.body.getD i (.Pass ⟨0, 0, 0, 0⟩)
structure Tx (K : PySem.W.Frag) (mg : Str → Option Value) (C : Addr) : Prop where
  n_len : mg "len" = none
  n_max : mg "max" = none
  n_min : mg "min" = none
  n_range : mg "range" = none
  n_enumerate : mg "enumerate" = none
  n_zip : mg "zip" = none
  n_list : mg "list" = none
  n_tuple : mg "tuple" = none
  n_int : mg "int" = none
  n_str : mg "str" = none
  n_sum : mg "sum" = none
  n_isinstance : mg "isinstance" = none
  n_any : mg "any" = none
  n_repr : mg "repr" = none
  m_Polygon : mg "Polygon" = some (.ref C)
  m_LEAST : ∃ u, mg "LEAST_JOINTS" = some (.int 3 u)
  cl : Cls K C
  nP : NoAttr K C "points"
  is_ : IsC K C
  kit : PySem.W.kitOne K (.ref C) (.ref C) = some true
  most : ∃ mc u, ClX.CRead K C mc ∧ ClX.CVal K C mc "MOST_JOINTS" (.int 8) u
/-- some two sticks are not parallel -/
def planeP (ps : List Pt) : Bool := (sticksP ps).any fun a => (sticksP ps).any fun b => decide (crossP a b ≠ 0)
abbrev polyD (C : Addr) (ps : List Pt) : Dt := .obj C [("points", Pts ps)]
/-! the promises -/
section
variable (K : PySem.W.Frag) (C : Addr)
abbrev spSource : Sp := SpD K (fun (x : List Int × Int) ds M => ds = [.frl (x.1.map Dt.int), .int x.2] ∧ 0 ≤ x.2 ∧ x.2 ≤ 100)
  (fun x M d M' => ∃ a c, d = .raw (.ref a) ∧ M a = none ∧ M' = put M a c ∧ IsSrc 0 c)
abbrev spDraw : Sp := SpD K (fun (x : Addr × Int × Int) ds M => ds = [.raw (.ref x.1), .int x.2.1] ∧ (∃ c, M x.1 = some c ∧ IsSrc x.2.2 c) ∧ 0 < x.2.1 ∧ x.2.1 < 2 ^ 4000 ∧ x.2.2 ≤ 2 ^ 40)
  (fun x M d M' => ∃ r c', d = .int r ∧ 0 ≤ r ∧ r < x.2.1 ∧ M' = put M x.1 c' ∧ IsSrc (x.2.2 + 1) c')
abbrev spPlus : Sp := SpP K (fun (x : Pt × Pt) => [P2 x.1, P2 x.2]) (fun _ => True) (fun x => P2 (addP x.1 x.2))
abbrev spMinus : Sp := SpP K (fun (x : Pt × Pt) => [P2 x.1, P2 x.2]) (fun _ => True) (fun x => P2 (subP x.1 x.2))
abbrev spCross : Sp := SpP K (fun (x : Pt × Pt) => [P2 x.1, P2 x.2]) (fun x => Bd (2 ^ 60) [x.1]) (fun x => .int (crossP x.1 x.2))
abbrev spCount : Sp := SpP K (fun (x : Str) => [.str x]) (fun x => x.length ≤ 1000000) (fun x => .bl (countF x))
abbrev spNumber : Sp := SpP K (fun (x : Str) => [.str x]) (fun x => x.length ≤ 1000000) (fun x => .bl (numF x))
abbrev spRead : Sp := SpP K (fun (ps : List Pt) => [.str (wPs ps)]) (fun ps => ps ≠ [] ∧ ps.length ≤ 100 ∧ Small ps) (fun ps => Lps ps)
abbrev spJ : Sp := SpP K (fun (x : List Int × Int) => [.tup (x.1.map Dt.int), .int x.2]) (fun x => ∀ j ∈ x.1, 0 ≤ j ∧ j < x.2) (fun _ => .non)
abbrev spPairs : Sp := SpP K (fun (ps : List Pt) => [Pts ps]) (fun ps => 3 ≤ ps.length ∧ ps.length ≤ 8) (fun _ => .non)
abbrev spSides : Sp := SpP K (fun (ps : List Pt) => [Pts ps]) (fun ps => ps.length ≤ 1000) (fun ps => .lst (pairD (ps.map P2) ((rot ps).map P2)))
abbrev spInit : Sp := SpD K (fun (x : Addr × List Pt) ds M => ds = .raw (.ref x.1) :: x.2.map P2 ∧ M x.1 = some (.ins C []) ∧ 3 ≤ x.2.length ∧ x.2.length ≤ 8) (fun x M d M' => d = .non ∧ M' = put M x.1 (.ins C [("points", Pts x.2)]))
abbrev spInitB : Sp := SpD K (fun (x : Addr × List Pt) ds M => ds = [.raw (.ref x.1), Pts x.2] ∧ M x.1 = some (.ins C []) ∧ 3 ≤ x.2.length ∧ x.2.length ≤ 8) (fun x M d M' => d = .non ∧ M' = put M x.1 (.ins C [("points", Pts x.2)]))
abbrev spParse : Sp := SpP K (fun (ps : List Pt) => [.raw (.ref C), .str (wPs ps)]) (fun ps => 3 ≤ ps.length ∧ ps.length ≤ 8 ∧ Small ps) (fun ps => polyD C ps)
abbrev spMirror : Sp := SpP K (fun (x : Pt × Pt × Pt) => [P2 x.1, P2 x.2.1, P2 x.2.2]) (fun _ => True) (fun x => P2 (subP (addP x.2.1 x.2.2) x.1))
abbrev spSticks : Sp := SpP K (fun (ps : List Pt) => [polyD C ps]) (fun ps => ps.length ≤ 1000) (fun ps => Pts (sticksP ps))
abbrev spArea : Sp := SpP K (fun (ps : List Pt) => [polyD C ps]) (fun ps => ps.length ≤ 1000 ∧ Bd (2 ^ 60) ps) (fun ps => .int (areaP ps))
abbrev spFlipped : Sp := SpP K (fun (x : List Pt × List Int) => polyD C x.1 :: x.2.map Dt.int) (fun x => 3 ≤ x.1.length ∧ x.1.length ≤ 8 ∧ x.2.length ≤ 100 ∧ ∀ j ∈ x.2, 0 ≤ j ∧ j < (x.1.length : Int)) (fun x => polyD C (flips x.1 x.2))
abbrev spFlippedB : Sp := SpP K (fun (x : List Pt × List Int) => [polyD C x.1, .bl false, .tup (x.2.map Dt.int)]) (fun x => 3 ≤ x.1.length ∧ x.1.length ≤ 8 ∧ x.2.length ≤ 100 ∧ ∀ j ∈ x.2, 0 ≤ j ∧ j < (x.1.length : Int)) (fun x => polyD C (flips x.1 x.2))
abbrev spMoved : Sp := SpP K (fun (x : List Pt × Pt) => [polyD C x.1, P2 x.2]) (fun x => 3 ≤ x.1.length ∧ x.1.length ≤ 8) (fun x => polyD C (x.1.map fun p => addP p x.2))
abbrev spEqP : Sp := SpP K (fun (x : List Pt × List Pt) => [polyD C x.1, polyD C x.2]) (fun x => x.1.length ≤ 50 ∧ x.2.length ≤ 50) (fun x => .bl (decide (x.1 = x.2)))
abbrev spLenP : Sp := SpP K (fun (ps : List Pt) => [polyD C ps]) (fun ps => ps.length ≤ 1000) (fun ps => .int ps.length)
abbrev spMade : Sp := SpP K (fun (x : List Pt × Bool) => [if x.2 then Pts x.1 else Lps x.1]) (fun x => 3 ≤ x.1.length ∧ x.1.length ≤ 8 ∧ Small x.1) (fun x => polyD C x.1)
abbrev spClosed : Sp := SpD K (fun (x : Pt × List Pt × Int) ds M => ds = [P2 x.1, Lps x.2.1] ∧ 1 ≤ x.2.1.length ∧ x.2.1.length ≤ 20 ∧ Bd x.2.2 (x.1 :: x.2.1) ∧ 0 ≤ x.2.2) (fun x M d M' => M' = M ∧ ∃ ps, d = Pts ps ∧ ps.length = x.2.1.length ∧ Bd (30 * x.2.2) ps)
abbrev spDrawn : Sp := SpD K (fun (x : Addr × Nat × Int) ds M => ds = [.raw (.ref x.1), .int x.2.1] ∧ (∃ c, M x.1 = some c ∧ IsSrc x.2.2 c) ∧ 3 ≤ x.2.1 ∧ x.2.1 ≤ 8 ∧ x.2.2 ≤ 2 ^ 30) (fun x M d M' => ∃ ps c', d = Pts ps ∧ ps.length = x.2.1 ∧ Bd (10 ^ 9) ps ∧ M' = put M x.1 c' ∧ IsSrc (x.2.2 + 60) c')
abbrev spCrossL : Sp := spCross K
abbrev spEqO : Sp := SpP K (fun (x : List Pt × Dt) => [polyD C x.1, x.2]) (fun x => ∃ T, TyD x.2 T) (fun _ => .bl false)
abbrev spPlane : Sp := SpP K (fun (ps : List Pt) => [polyD C ps]) (fun ps => ps.length ≤ 8 ∧ Bd (2 ^ 58) ps) (fun ps => .bl (planeP ps))
abbrev spText : Sp := SpP K (fun (ps : List Pt) => [polyD C ps]) (fun ps => ps.length ≤ 8 ∧ Small ps) (fun ps => .str (wPs ps))
abbrev spShow : Sp := SpP K (fun (ps : List Pt) => [polyD C ps]) (fun ps => ps.length ≤ 8 ∧ Small ps) (fun ps => .str (reprP ps))
abbrev spSticksL : Sp := SpP K (fun (ps : List Pt) => [Pts ps]) (fun ps => ps.length ≤ 8) (fun ps => Pts (sticksP ps))
abbrev spBuilt : Sp := SpP K (fun (ps : List Pt) => [Pts ps]) (fun ps => 3 ≤ ps.length ∧ ps.length ≤ 8) (fun ps => polyD C ps)
abbrev spAreaL : Sp := SpP K (fun (ps : List Pt) => [Pts ps]) (fun ps => ps.length ≤ 8 ∧ Bd (2 ^ 58) ps) (fun ps => .int (areaP ps))
abbrev spPlaneL : Sp := SpP K (fun (ps : List Pt) => [Pts ps]) (fun ps => ps.length ≤ 8 ∧ Bd (2 ^ 58) ps) (fun ps => .bl (planeP ps))
abbrev spRight : Sp := SpP K (fun (ps : List Pt) => [polyD C ps, Pts ps]) (fun ps => 3 ≤ ps.length ∧ ps.length ≤ 8 ∧ Bd (2 ^ 58) ps) (fun _ => .bl true)
abbrev spOne : Sp := SpP K (fun (x : List Pt × Nat) => [Pts x.1, .int x.2]) (fun x => 3 ≤ x.1.length ∧ x.1.length ≤ 8 ∧ Bd (10 ^ 9) x.1 ∧ x.2 < x.1.length) (fun _ => .bl true)
abbrev spTwo : Sp := SpP K (fun (x : List Pt × Nat × Nat) => [polyD C x.1, .int x.2.1, .int x.2.2]) (fun x => 3 ≤ x.1.length ∧ x.1.length ≤ 8 ∧ x.2.2 < x.2.1 ∧ x.2.1 < x.1.length) (fun _ => .bl true)
abbrev spLaw : Sp := SpD K (fun (ns : List Int) ds M => ds = [.frl (ns.map Dt.int)] ∧ ns.length ≤ 63) (fun _ _ d _ => d = .bl true)
end
theorem bd_sticks {ps : List Pt} {B C : Int} (h : Bd B ps) (e : 2 * B ≤ C := by decide) : Bd C (sticksP ps) := fun p hp => by
  unfold sticksP at hp
  obtain ⟨⟨x, y⟩, hq, rfl⟩ := List.mem_map.mp hp
  have h1 := h x (List.of_mem_zip hq).1
  have h2 : y ∈ rot ps := (List.of_mem_zip hq).2
  unfold rot at h2
  have h3 := h y (by
    rcases List.mem_append.mp h2 with z | z
    · exact List.mem_of_mem_drop z
    · exact List.mem_of_mem_take z)
  unfold subP
  dsimp only
  omega
theorem cutD_to3 {x y z : Dt} {r : List Dt} : cutD (x :: y :: z :: r) none (some 3) = [x, y, z] := by
  unfold cutD
  have h := HT.sIx_nat (x :: y :: z :: r).length (x :: y :: z :: r).length 3
  have e : HT.sIx (x :: y :: z :: r).length (x :: y :: z :: r).length (some 3) = 3 := by
    refine h.trans ?_
    show min 3 (r.length + 1 + 1 + 1) = 3
    omega
  rw [sIx_none, List.drop_zero, Nat.sub_zero, e] <;> rfl
theorem sIx_at {n d j : Nat} : HT.sIx n d (some (j : Int)) = min j n := HT.sIx_nat n d j
theorem cutD_from (xs : List Dt) (j : Nat) : cutD xs (some (j : Int)) none = xs.drop j := by
  unfold cutD
  rw [sIx_at, sIx_none]
  by_cases h : j ≤ xs.length
  · rw [Nat.min_eq_left h, List.take_of_length_le (by rw [List.length_drop]; exact Nat.le_refl _)]
  · rw [List.drop_of_length_le (show xs.length ≤ j by omega), Nat.min_eq_right (by omega), Nat.sub_self, List.take_zero]
theorem cutD_to (xs : List Dt) (j : Nat) : cutD xs none (some (j : Int)) = xs.take j := by
  unfold cutD
  rw [sIx_at, sIx_none, List.drop_zero, Nat.sub_zero]
  by_cases h : j ≤ xs.length
  · rw [Nat.min_eq_left h]
  · rw [Nat.min_eq_right (by omega), List.take_of_length_le (Nat.le_refl _), List.take_of_length_le (by omega)]
theorem mul_abs {a b : Int} {B C : Nat} (h1 : a.natAbs ≤ B) (h2 : b.natAbs ≤ C) : (a * b).natAbs ≤ B * C := by
  rw [Int.natAbs_mul]
  exact Nat.mul_le_mul h1 h2
theorem area_abs {ps : List Pt} (h : Bd (2 ^ 58) ps) (h8 : ps.length ≤ 8) : (areaP ps).natAbs < 2 ^ 200 := by
  have key : ∀ n ∈ crossesP ps, -(2 ^ 118) ≤ n ∧ n ≤ (2 ^ 118 : Int) := fun n hn => by
    unfold crossesP at hn
    obtain ⟨⟨a, b⟩, hq, rfl⟩ := List.mem_map.mp hn
    have h1 := h a (List.of_mem_zip hq).1
    have h2 : b ∈ rot ps := (List.of_mem_zip hq).2
    unfold rot at h2
    have h3 := h b (by
      rcases List.mem_append.mp h2 with z | z
      · exact List.mem_of_mem_drop z
      · exact List.mem_of_mem_take z)
    have m1 := mul_abs (a := a.1) (b := b.2) (B := 2 ^ 58) (C := 2 ^ 58) (by omega) (by omega)
    have m2 := mul_abs (a := a.2) (b := b.1) (B := 2 ^ 58) (C := 2 ^ 58) (by omega) (by omega)
    unfold crossP
    dsimp only
    omega
  have q := sum_bd (ns := crossesP ps) key
  have e : areaP ps = (crossesP ps).sum := rfl
  rw [crossesP_length] at q
  rw [e]
  have h4 : (2 ^ 118 : Int) * (ps.length : Int) ≤ 2 ^ 118 * 8 := Int.mul_le_mul_of_nonneg_left (by omega) (by decide)
  omega
theorem flat_len {ps ss : List Pt} {f : Pt → Pt → Dt} (h : ss.length = ps.length) (h8 : ps.length ≤ 8) : (ss.map fun a => ss.map fun b => f a b).flatten.length ≤ 64 := by
  rw [List.length_flatten, List.map_map]
  have e : (List.length ∘ fun a => ss.map fun b => f a b) = fun _ => ss.length := by
    funext a
    rw [Function.comp, List.length_map]
  rw [e, List.map_const', List.sum_replicate_nat]
  have q : ss.length * ss.length ≤ 8 * 8 := Nat.mul_le_mul (by omega) (by omega)
  exact q
/-! the calls of the law, in short -/
theorem poly_no {d : Dt} {f : Str} (h : (f == ("points" : Str)) = false) : ([(("points" : Str), d)] : List (Str × Dt)).lookup f = none := by
  rw [List.lookup_cons, h] <;> rfl
section
variable {K : PySem.W.Frag} {ρ : Rho} {M : Mm} {Φ : Dt → Mm → Prop} {te : TE} {t : TA} {E : XK} {C : Addr}
theorem ex_flip {qs : List Pt} {js : List Int} (h3 : 3 ≤ qs.length) (h8 : qs.length ≤ 8) (hl : js.length ≤ 100) (hj : ∀ j ∈ js, 0 ≤ j ∧ j < (qs.length : Int)) (h : EX K te ρ M (fun x M1 => x = polyD C qs ∧ AX K t ρ M1 (fun ds M2 => ds = js.map Dt.int ∧ Φ (polyD C (flips qs js)) M2))) :
    EX K (tMeth C "flipped" (spFlipped K C) [] E te t) ρ M Φ := ex_methP (h.mono fun x M1 ⟨e, z⟩ => ⟨_, e, poly_no (by decide), fun B H H1 σ o s Q q => z B H H1 σ o s Q fun vs ds M' H' H2 ⟨e2, z2⟩ => q vs ds M' H' H2 ⟨(qs, js), by rw [e2], ⟨h3, h8, hl, hj⟩, z2⟩⟩)
theorem ex_move {qs : List Pt} {v : Pt} (h3 : 3 ≤ qs.length) (h8 : qs.length ≤ 8) (h : EX K te ρ M (fun x M1 => x = polyD C qs ∧ AX K t ρ M1 (fun ds M2 => ds = [P2 v] ∧ Φ (polyD C (qs.map fun p => addP p v)) M2))) :
    EX K (tMeth C "moved" (spMoved K C) [] E te t) ρ M Φ := ex_methP (h.mono fun x M1 ⟨e, z⟩ => ⟨_, e, poly_no (by decide), fun B H H1 σ o s Q q => z B H H1 σ o s Q fun vs ds M' H' H2 ⟨e2, z2⟩ => q vs ds M' H' H2 ⟨(qs, v), by rw [e2], ⟨h3, h8⟩, z2⟩⟩)
theorem ex_made {ps : List Pt} (h3 : 3 ≤ ps.length) (h8 : ps.length ≤ 8) (hs : Small ps) (h : AX K t ρ M (fun ds M1 => (ds = [Pts ps] ∨ ds = [Lps ps]) ∧ Φ (polyD C ps) M1)) : EX K (tCall (spMade K C) [] E t) ρ M Φ := ex_callP fun B H H1 σ o s Q q => h B H H1 σ o s Q fun vs ds M' H' H2 ⟨e, z⟩ => q vs ds M' H' H2 (by
  rcases e with rfl | rfl
  · exact ⟨(ps, true), rfl, ⟨h3, h8, hs⟩, z⟩
  · exact ⟨(ps, false), rfl, ⟨h3, h8, hs⟩, z⟩)
theorem ex_pts {mg : Str → Option Value} (T : Tx K mg C) {ps : List Pt} (h : EX K te ρ M (fun x M1 => x = polyD C ps ∧ Φ (Pts ps) M1)) : EX K (tFld K te "points") ρ M Φ := ex_fld (h.mono fun x M1 ⟨e, z⟩ => ⟨C, _, Pts ps, e, T.cl, T.nP, rfl, z⟩)
theorem rx_eqp {g : Bool → Bool} {ps qs : List Pt} (h1 : ps.length ≤ 50) (h2 : qs.length ≤ 50) (k : Φ (.bl (g (decide (ps = qs)))) M) : RX K (rOwn C (spEqP K C) E g) (polyD C ps) (polyD C qs) M Φ := rx_own ⟨(ps, qs), ⟨rfl, h1, h2⟩, fun d M' ⟨e1, e2⟩ => ⟨_, e1, by rw [e2]; exact k⟩⟩
theorem ex_sticks {ps : List Pt} (hl : ps.length ≤ 1000) (h : EX K te ρ M (fun x M1 => x = polyD C ps ∧ Φ (Pts (sticksP ps)) M1)) : EX K (tProp C (spSticks K C) [] E te) ρ M Φ := ex_propP (h.mono fun x M1 ⟨e, z⟩ => ⟨_, e, ps, rfl, hl, z⟩)
theorem ex_area {ps : List Pt} (hl : ps.length ≤ 1000) (hb : Bd (2 ^ 60) ps) (h : EX K te ρ M (fun x M1 => x = polyD C ps ∧ Φ (.int (areaP ps)) M1)) : EX K (tProp C (spArea K C) [] E te) ρ M Φ := ex_propP (h.mono fun x M1 ⟨e, z⟩ => ⟨_, e, ps, rfl, ⟨hl, hb⟩, z⟩)
theorem ex_text {ps : List Pt} (hl : ps.length ≤ 8) (hs : Small ps) (h : EX K te ρ M (fun x M1 => x = polyD C ps ∧ Φ (.str (wPs ps)) M1)) : EX K (tProp C (spText K C) [] E te) ρ M Φ := ex_propP (h.mono fun x M1 ⟨e, z⟩ => ⟨_, e, ps, rfl, ⟨hl, hs⟩, z⟩)
theorem ex_planeP {ps : List Pt} (hl : ps.length ≤ 8) (hb : Bd (2 ^ 58) ps) (h : EX K te ρ M (fun x M1 => x = polyD C ps ∧ Φ (.bl (planeP ps)) M1)) : EX K (tProp C (spPlane K C) [] E te) ρ M Φ := ex_propP (h.mono fun x M1 ⟨e, z⟩ => ⟨_, e, ps, rfl, ⟨hl, hb⟩, z⟩)
theorem ex_right {ps : List Pt} (h3 : 3 ≤ ps.length) (h8 : ps.length ≤ 8) (hb : Bd (2 ^ 58) ps) (h : AX K t ρ M (fun ds M1 => ds = [polyD C ps, Pts ps] ∧ Φ (.bl true) M1)) : EX K (tCall (spRight K C) [] E t) ρ M Φ := ex_callP fun B H H1 σ o s Q q => h B H H1 σ o s Q fun vs ds M' H' H2 ⟨e, z⟩ => q vs ds M' H' H2 ⟨ps, e, ⟨h3, h8, hb⟩, z⟩
theorem ex_built {ps : List Pt} (h3 : 3 ≤ ps.length) (h8 : ps.length ≤ 8) (h : AX K t ρ M (fun ds M1 => ds = [Pts ps] ∧ Φ (polyD C ps) M1)) : EX K (tCall (spBuilt K C) [] E t) ρ M Φ := ex_callP fun B H H1 σ o s Q q => h B H H1 σ o s Q fun vs ds M' H' H2 ⟨e, z⟩ => q vs ds M' H' H2 ⟨ps, e, ⟨h3, h8⟩, z⟩
end
end Wk
/-! ## WkV -/
/-! Tuples that may be no pairs; sticks that close or not. -/
namespace Wk
open PySem L2 Evl
abbrev T1 (t : List Int) : Dt := .tup (t.map Dt.int)
abbrev Tts (ts : List (List Int)) : Dt := .tup (ts.map T1)
abbrev Lts (ts : List (List Int)) : Dt := .lst (ts.map T1)
def l2 (p : Pt) : List Int := [p.1, p.2]
def toPt (t : List Int) : Pt := (t.getD 0 0, t.getD 1 0)
theorem l2_toPt {t : List Int} (h : t.length = 2) : l2 (toPt t) = t := match t, h with
  | [_, _], _ => rfl
theorem toPt_l2 (p : Pt) : toPt (l2 p) = p := rfl
theorem l2_len (p : Pt) : (l2 p).length = 2 := rfl
theorem map_T1_l2 (ps : List Pt) : (ps.map l2).map T1 = ps.map P2 := by
  rw [List.map_map]
  rfl
/-- the first argument that is no pair, or has the number 8 -/
def badFrom : Nat → List (List Int) → Option Nat
  | _, [] => none
  | k, t :: ts => if t.length ≠ 2 ∨ k = 8 then some k else badFrom (k + 1) ts
def badP (ts : List (List Int)) : Option Nat := match badFrom 0 ts with
  | some i => some i
  | none => if ts.length < 3 then some ts.length else none
theorem badFrom_at : ∀ {ts : List (List Int)} {k i : Nat} {t : List Int}, (∀ j u, j < i → ts[j]? = some u → u.length = 2 ∧ k + j ≠ 8) → ts[i]? = some t → (t.length ≠ 2 ∨ k + i = 8) → badFrom k ts = some (k + i)
  | [], _, _, _, _, h, _ => by simp at h
  | u :: ts, k, 0, t, _, h, hb => by
    simp at h
    subst h
    unfold badFrom
    rw [if_pos (by simpa using hb)] <;> rfl
  | u :: ts, k, i + 1, t, hj, h, hb => by
    have h0 := hj 0 u (by omega) rfl
    have q := badFrom_at (ts := ts) (k := k + 1) (i := i) (t := t) (fun j v hl hv => by
      have z := hj (j + 1) v (by omega) (by simpa using hv)
      exact ⟨z.1, by omega⟩) (by simpa using h) (by
        rcases hb with z | z
        · exact .inl z
        · exact .inr (by omega))
    unfold badFrom
    rw [if_neg (by
      rintro (z | z)
      · exact z h0.1
      · exact h0.2 (by omega)), q]
    congr 1
    omega
theorem badFrom_none : ∀ {ts : List (List Int)} {k : Nat}, badFrom k ts = none ↔ ∀ j u, ts[j]? = some u → u.length = 2 ∧ k + j ≠ 8
  | [], k => by
    constructor
    · intro _ j u h
      simp at h
    · intro _
      rfl
  | t :: ts, k => by
    have ih := badFrom_none (ts := ts) (k := k + 1)
    unfold badFrom
    constructor
    · intro h j u hu
      by_cases hc : t.length ≠ 2 ∨ k = 8
      · rw [if_pos hc] at h
        cases h
      · rw [if_neg hc] at h
        have hc1 : t.length = 2 := Classical.byContradiction fun z => hc (.inl z)
        have hc2 : k ≠ 8 := fun z => hc (.inr z)
        cases j with
        | zero =>
          simp at hu
          subst hu
          exact ⟨hc1, by omega⟩
        | succ j =>
          have z := ih.mp h j u (by simpa using hu)
          exact ⟨z.1, by omega⟩
    · intro h
      have h0 := h 0 t rfl
      rw [if_neg (by
        rintro (z | z)
        · exact z h0.1
        · exact h0.2 (by omega))]
      exact ih.mpr fun j u hu => by
        have z := h (j + 1) u (by simpa using hu)
        exact ⟨z.1, by omega⟩
theorem badP_at {ts : List (List Int)} {i : Nat} {t : List Int} (hj : ∀ j u, j < i → ts[j]? = some u → u.length = 2 ∧ j ≠ 8) (h : ts[i]? = some t) (hb : t.length ≠ 2 ∨ i = 8) : badP ts = some i := by
  unfold badP
  rw [badFrom_at (k := 0) (fun j u a b => by have := hj j u a b; exact ⟨this.1, by omega⟩) h (by rcases hb with z | z; exact .inl z; exact .inr (by omega)), Nat.zero_add]
theorem badP_few {ts : List (List Int)} (hj : ∀ j u, ts[j]? = some u → u.length = 2 ∧ j ≠ 8) (h : ts.length < 3) : badP ts = some ts.length := by
  unfold badP
  rw [badFrom_none.mpr fun j u a => by have := hj j u a; exact ⟨this.1, by omega⟩]
  exact if_pos h
theorem badP_good {ts : List (List Int)} (hj : ∀ j u, ts[j]? = some u → u.length = 2 ∧ j ≠ 8) (h : ¬ ts.length < 3) : badP ts = none := by
  unfold badP
  rw [badFrom_none.mpr fun j u a => by have := hj j u a; exact ⟨this.1, by omega⟩]
  exact if_neg h
theorem badP_none {ts : List (List Int)} (h : badP ts = none) : 3 ≤ ts.length ∧ ts.length ≤ 8 ∧ (∀ t ∈ ts, t.length = 2) ∧ (ts.map toPt).map l2 = ts := by
  unfold badP at h
  cases e : badFrom 0 ts with
  | some i =>
    rw [e] at h
    cases h
  | none =>
    rw [e] at h
    have q := badFrom_none.mp e
    have h3 : ¬ ts.length < 3 := fun z => by
      simp only at h
      rw [if_pos z] at h
      cases h
    have hp : ∀ t ∈ ts, t.length = 2 := fun t ht => by
      obtain ⟨j, hj⟩ := List.getElem?_of_mem ht
      exact (q j t hj).1
    refine ⟨by omega, ?_, hp, ?_⟩
    · apply Classical.byContradiction
      intro z
      exact (q 8 ts[8] (List.getElem?_eq_getElem (by omega))).2 rfl
    · rw [List.map_map]
      have key : ∀ {us : List (List Int)}, (∀ t ∈ us, t.length = 2) → us.map (l2 ∘ toPt) = us := by
        intro us
        induction us with
        | nil => intro _; rfl
        | cons u us ih =>
          intro hu
          rw [List.map_cons, ih fun t ht => hu t (List.mem_cons_of_mem _ ht)]
          show l2 (toPt u) :: us = u :: us
          rw [l2_toPt (hu u List.mem_cons_self)]
      exact key hp
/-- joints one behind the other -/
def closP (p : Pt) : List Pt → List Pt
  | [] => [p]
  | s :: ss => p :: closP (addP p s) ss
theorem closP_ne (p : Pt) (ss : List Pt) : closP p ss ≠ [] := by
  cases ss <;> exact List.cons_ne_nil _ _
theorem closP_len : ∀ {ss : List Pt} {p : Pt}, (closP p ss).length = ss.length + 1
  | [], _ => rfl
  | s :: ss, p => by
    unfold closP
    rw [List.length_cons, closP_len, List.length_cons]
theorem closP_snoc : ∀ {ss : List Pt} {p s : Pt}, closP p (ss ++ [s]) = closP p ss ++ [addP (ptD (closP p ss) ss.length) s]
  | [], _, _ => rfl
  | a :: ss, p, s => by
    show p :: closP (addP p a) (ss ++ [s]) = p :: (closP (addP p a) ss ++ [addP (ptD (p :: closP (addP p a) ss) (ss.length + 1)) s])
    rw [closP_snoc]
    rfl
theorem closP_at {p : Pt} {ss : List Pt} {i : Nat} {s : Pt} (h : ss[i]? = some s) : closP p (ss.take (i + 1)) = closP p (ss.take i) ++ [addP (ptD (closP p (ss.take i)) i) s] := by
  have hlt := (List.getElem?_eq_some_iff.mp h).1
  have e := (List.getElem?_eq_some_iff.mp h).2
  rw [List.take_succ_eq_append_getElem hlt, e, closP_snoc, List.length_take, Nat.min_eq_left (by omega)]
theorem put_none {M : Mm} {a x : Addr} {c : Cell} (h : put M a c x = none) : M x = none := by
  by_cases e : x = a
  · rw [e, put_same] at h
    cases h
  · rw [put_ne e] at h
    exact h
theorem toPt_map (ss : List Pt) : (ss.map l2).map toPt = ss := by
  rw [List.map_map]
  exact List.map_id ss
theorem tts_l2 (ss : List Pt) : Tts (ss.map l2) = Pts ss := by
  show Dt.tup _ = Dt.tup _
  rw [map_T1_l2]
theorem lts_l2 (ss : List Pt) : Lts (ss.map l2) = Lps ss := by
  show Dt.lst _ = Dt.lst _
  rw [map_T1_l2]
def sumP (ss : List Pt) : Pt := ((ss.map (·.1)).sum, (ss.map (·.2)).sum)
inductive FR where
  | bad (i : Nat)
  | rest (r : Pt)
  | poly (ps : List Pt)
def fromF (p : Pt) (ts : List (List Int)) : FR := match badP ts with
  | some i => .bad i
  | none => if sumP (ts.map toPt) = (0, 0) then .poly (closP p (ts.map toPt).dropLast) else .rest (sumP (ts.map toPt))
abbrev sPolygon : Str := "polygon"
abbrev sRest : Str := "rest"
abbrev sIndex : Str := "index"
def frD : FR → Dt
  | .bad i => .lst [.str sPolygon, .int (i : Nat)]
  | .rest r => .lst [.str sRest, P2 r]
  | .poly ps => Pts ps
def SmT (B : Nat) (ts : List (List Int)) : Prop := ∀ t ∈ ts, ∀ n ∈ t, n.natAbs ≤ B
theorem smT_l2 {B : Nat} {ss : List Pt} (h : SmT B (ss.map l2)) : ∀ s ∈ ss, s.1.natAbs ≤ B ∧ s.2.natAbs ≤ B := fun s hs => by
  have q := h (l2 s) (List.mem_map_of_mem hs)
  exact ⟨q s.1 List.mem_cons_self, q s.2 (List.mem_cons_of_mem _ List.mem_cons_self)⟩
theorem sumP_small {ss : List Pt} (h : SmT (2 ^ 100) (ss.map l2)) (h8 : ss.length ≤ 50) : (sumP ss).1.natAbs < 2 ^ 200 ∧ (sumP ss).2.natAbs < 2 ^ 200 := by
  have q := smT_l2 h
  have h1 := sum_bd (B := 2 ^ 100) (ns := ss.map (·.1)) fun n hn => by
    obtain ⟨s, hs, rfl⟩ := List.mem_map.mp hn
    have := (q s hs).1
    omega
  have h2 := sum_bd (B := 2 ^ 100) (ns := ss.map (·.2)) fun n hn => by
    obtain ⟨s, hs, rfl⟩ := List.mem_map.mp hn
    have := (q s hs).2
    omega
  rw [List.length_map] at h1 h2
  have e : (2 : Int) ^ 100 * (ss.length : Int) ≤ 2 ^ 100 * 50 := Int.mul_le_mul_of_nonneg_left (by omega) (by decide)
  unfold sumP
  dsimp only
  omega
theorem msgD_p2 {p : Pt} (h : p.1.natAbs < 2 ^ 200 ∧ p.2.natAbs < 2 ^ 200) : MsgD (P2 p) := .tup (ns := [p.1, p.2]) (by simp) fun n hn => by
  rcases List.mem_cons.mp hn with rfl | hn
  · exact h.1
  · rw [List.mem_singleton.mp hn]
    exact h.2
section
variable (K : PySem.W.Frag) (C BP NC : Addr)
abbrev spPairsX : Sp := SpX K (fun (ts : List (List Int)) ds M => ds = [Tts ts] ∧ ts.length ≤ 1000) (fun ts M d M' => badP ts = none ∧ d = .non ∧ M' = M)
  (fun ts M C' gs M' => C' = BP ∧ M' = M ∧ ∃ i : Nat, badP ts = some i ∧ gs = [(sIndex, .int i)])
abbrev spTotal : Sp := SpP K (fun (ss : List Pt) => [Pts ss]) (fun ss => ss.length ≤ 100) (fun ss => P2 (sumP ss))
abbrev fromPost : Pt × List (List Int) → Mm → Dt → Mm → Prop := fun x M d M' => ∃ ps, fromF x.1 x.2 = .poly ps ∧ d = polyD C ps ∧ M' = M
abbrev fromXp : Pt × List (List Int) → Mm → XD := fun x M C' gs M' => M' = M ∧ ((C' = BP ∧ ∃ i : Nat, fromF x.1 x.2 = .bad i ∧ gs = [(sIndex, .int i)]) ∨ (C' = NC ∧ ∃ r, fromF x.1 x.2 = .rest r ∧ gs = [(sRest, P2 r)]))
abbrev spFromB : Sp := SpX K (fun (x : Pt × List (List Int)) ds M => ds = [.raw (.ref C), P2 x.1, Tts x.2] ∧ x.2.length ≤ 50 ∧ SmT (2 ^ 100) x.2) (fromPost C) (fromXp BP NC)
abbrev spFrom : Sp := SpX K (fun (x : Pt × List (List Int)) ds M => ds = .raw (.ref C) :: P2 x.1 :: x.2.map T1 ∧ x.2.length ≤ 50 ∧ SmT (2 ^ 100) x.2) (fromPost C) (fromXp BP NC)
abbrev spClosedE : Sp := SpP K (fun (x : Pt × List Pt) => [P2 x.1, Lps x.2]) (fun x => 1 ≤ x.2.length ∧ x.2.length ≤ 20) (fun x => Pts (closP x.1 x.2.dropLast))
abbrev spDue : Sp := SpP K (fun (x : Pt × List (List Int)) => [P2 x.1, Lts x.2]) (fun x => x.2.length ≤ 9) (fun x => frD (fromF x.1 x.2))
abbrev spTold : Sp := SpP K (fun (x : Pt × List (List Int)) => [P2 x.1, Lts x.2]) (fun x => x.2.length ≤ 9 ∧ SmT (2 ^ 100) x.2) (fun x => frD (fromF x.1 x.2))
end
/-! what the classes of exceptions say -/
structure ExF (P : Program) (K : PySem.W.Frag) (mg : Str → Option Value) (x fld : Str) (D WE : Addr) : Prop where
  sup : Sup1 P K mg x fld D
  k : ExcK K D
  f : PySem.W.findIn K (.ref D) fld = some none
  x : PySem.W.exmOne K (.ref D) (.ref WE) = some true
theorem kit_self {K : PySem.W.Frag} {D : Addr} : PySem.W.kitOne K (.ref D) (.ref D) = some true := if_pos (beq_self_eq_true _)
theorem kit_ref {K : PySem.W.Frag} {C D : Addr} {b : Bool} (hcl : PySem.W.isClsIn K D = true) (ht : PySem.W.typeIn K (.ref D) = some (.type "type")) (hs : PySem.W.subIn K (.ref C) (.ref D) = some b) (hself : PySem.W.subIn K (.ref C) (.ref C) = some true) : PySem.W.kitOne K (.ref C) (.ref D) = some b := by
  by_cases h : C = D
  · subst h
    rw [hself] at hs
    cases hs
    exact kit_self
  · have e : ¬ ((Value.ref C == Value.ref D) = true) := fun e => h (Value.ref.inj (eq_of_beq e))
    have e2 : ((PySem.W.clsIn K D).isSome && PySem.W.typeIn K (.ref D) == some (.type "type")) = true := by
      rw [show (PySem.W.clsIn K D).isSome = true from hcl, ht]
      simp
    unfold PySem.W.kitOne
    rw [if_neg e]
    exact (if_pos e2).trans hs
theorem kitAny2 {K : PySem.W.Frag} {t a b : Value} (h1 : PySem.W.kitOne K t a = some false) (h2 : PySem.W.kitOne K t b = some false) : PySem.W.kitAny K t [a, b] = some false := by
  unfold PySem.W.kitAny
  rw [h1]
  dsimp only
  unfold PySem.W.kitAny
  rw [h2]
  rfl
theorem up_of {K : PySem.W.Frag} {C WE : Addr} {nm q nm2 q2 : Str} {N N2 : Addr} {bs bs2 bm : List Value} {sn sn2 : List Str} {sub sub2 : List Value} {ab ab2 : Bool} {col col2 : Option Bool} {dd dd2 : Option Addr} {k0 k1 k2 k3 k5 j0 j1 j2 j3 j5 : Option Value} {id2 : String} {hd2 : Bool} {r : Option Value}
    (hC : K.lookup C = some (excClassObj nm q C N bs (.ref WE :: bm) true sn sub ab col dd k0 k1 k2 k3 k5 "ValueError.__new__")) (hW : K.lookup WE = some (excClassObj nm2 q2 WE N2 bs2 bm hd2 sn2 sub2 ab2 col2 dd2 j0 j1 j2 j3 j5 id2))
    (hf : PySem.W.findIn K (.ref WE) "__init__" = some r) : PySem.W.ks_superIn K C C "__init__" = some r := by
  have hcl : PySem.W.clsIn K C = some { name := nm, bases := bs, mro := .ref C :: .ref WE :: bm, ns := N, qualname := q, hasDict := true, slotNames := sn, subclasses := sub, abstract := ab, collection := col, hasDel := false } := by
    unfold PySem.W.clsIn
    rw [hC]
  unfold PySem.W.findIn at hf
  dsimp only at hf
  rw [hW] at hf
  dsimp only [excClassObj] at hf
  unfold PySem.W.ks_superIn
  rw [hcl, Option.bind_some]
  dsimp only
  rw [List.dropWhile_cons]
  simp only [bne_self_eq_false, Bool.false_eq_true, if_false, List.drop_succ_cons, List.drop_zero]
  exact hf
structure XT (P : Program) (K : PySem.W.Frag) (mg : Str → Option Value) (WE BP BT NC : Addr) : Prop where
  m_WE : mg "WalkError" = some (.ref WE)
  m_BT : mg "BadText" = some (.ref BT)
  eP : ExF P K mg "BadPolygon" "index" BP WE
  eN : ExF P K mg "NotClosed" "rest" NC WE
  PT : PySem.W.kitOne K (.ref BP) (.ref BT) = some false
  PN : PySem.W.kitOne K (.ref BP) (.ref NC) = some false
  NP : PySem.W.kitOne K (.ref NC) (.ref BP) = some false
  NT : PySem.W.kitOne K (.ref NC) (.ref BT) = some false
end Wk
/-! ## WkW3 -/
/-! Texts of points, read by two grammars. -/
namespace Wk
open PySem L2 Evl
/-! pieces of a split text -/
theorem spl_one {s : Nat} : ∀ {l acc : List Nat} {p : List Nat}, p ∈ TL.spl [s] 0 acc l → p.length ≤ acc.length + l.length ∧ ∀ c ∈ p, c ∈ acc ∨ c ∈ l
  | [], acc, p, h => by
    rw [TL.spl_nil] at h
    rw [List.mem_singleton.mp h]
    exact ⟨by simp, fun c hc => .inl hc⟩
  | c :: r, acc, p, h => by
    by_cases hc : TL.pre [s] (c :: r) = true
    · rw [TL.spl_hit hc] at h
      rcases List.mem_cons.mp h with rfl | h
      · exact ⟨by simp, fun c hc => .inl hc⟩
      · have q := spl_one (s := s) (l := r) (acc := []) h
        simp only [List.length_nil, List.not_mem_nil, false_or] at q
        rw [List.length_cons]
        exact ⟨by omega, fun d hd => .inr (List.mem_cons_of_mem _ (q.2 d hd))⟩
    · rw [TL.spl_miss (by simpa using hc)] at h
      have q := spl_one (s := s) (l := r) (acc := acc ++ [c]) h
      rw [List.length_append, List.length_cons, List.length_nil] at q
      rw [List.length_cons]
      refine ⟨by omega, fun d hd => ?_⟩
      rcases q.2 d hd with z | z
      · rcases List.mem_append.mp z with z | z
        · exact .inl z
        · exact .inr (by rw [List.mem_singleton.mp z]; exact List.mem_cons_self)
      · exact .inr (List.mem_cons_of_mem _ z)
theorem spl_count {s : Nat} : ∀ {l acc : List Nat}, (TL.spl [s] 0 acc l).length ≤ l.length + 1 ∧ TL.spl [s] 0 acc l ≠ []
  | [], acc => by rw [TL.spl_nil]; simp
  | c :: r, acc => by
    by_cases hc : TL.pre [s] (c :: r) = true
    · rw [TL.spl_hit hc]
      have q := spl_count (s := s) (l := r) (acc := [])
      show ((acc :: TL.spl [s] 0 [] r).length ≤ _) ∧ _
      rw [List.length_cons, List.length_cons]
      exact ⟨by omega, List.cons_ne_nil _ _⟩
    · rw [TL.spl_miss (by simpa using hc)]
      have q := spl_count (s := s) (l := r) (acc := acc ++ [c])
      rw [List.length_cons]
      exact ⟨by omega, q.2⟩
/-- plain signs alone -/
def Asc (w : Str) : Prop := ∀ c ∈ TL.tl w, c < 128
theorem split_pieces {w y : Str} {s : Nat} (ey : TL.tl y = [s]) (hk : y.cps.all (· < 256) = true) : (∀ p ∈ Txt.split w y, p.length ≤ w.length ∧ (Asc w → Asc p)) ∧ (Txt.split w y).length ≤ w.length + 1 ∧ Txt.split w y ≠ [] := by
  have e := TL.split_spl w y (by rw [ey]; simp) (TL.kind_ok hk)
  rw [ey] at e
  have c := spl_count (s := s) (l := TL.tl w) (acc := [])
  rw [← e] at c
  refine ⟨fun p hp => ?_, ?_, fun z => c.2 (by rw [z]; rfl)⟩
  · have hm : TL.tl p ∈ TL.spl [s] 0 [] (TL.tl w) := by
      rw [← e]
      exact List.mem_map_of_mem hp
    have q := spl_one hm
    rw [TL.len_tl, TL.len_tl]
    simp only [List.length_nil, List.not_mem_nil, false_or] at q
    exact ⟨by omega, fun h c hc => h c (q.2 c hc)⟩
  · have z := c.1
    rw [List.length_map] at z
    rw [TL.len_tl]
    exact z
/-! the two grammars of an integer -/
def dig (c : Nat) : Bool := decide (48 ≤ c ∧ c ≤ 57)
theorem dig_uni : ∀ c : Nat, c < 128 → Unicode.isDigit c = dig c := by
  intro c hc
  have key : ∀ c : Fin 128, Unicode.isDigit c.val = dig c.val := by decide +kernel
  exact key ⟨c, hc⟩
def countL (l : List Nat) : Bool := decide (l = [48]) || (decide (l ≠ []) && l.all dig && !decide (l.headD 0 = 48))
def numB (l : List Nat) : Bool := countL l || (decide (l.headD 0 = 45 ∧ l ≠ []) && (!decide (l = [45, 48]) && countL (l.drop 1)))
theorem isdigit_asc {w : Str} (h : Asc w) : Txt.isdigit w = (decide (TL.tl w ≠ []) && (TL.tl w).all dig) := by
  have e1 : decide (w.length > 0) = decide (TL.tl w ≠ []) := by
    rw [TL.len_tl]
    exact decide_eq_decide.mpr List.length_pos_iff
  have e2 : w.cps.all Unicode.isDigit = (TL.tl w).all dig := by
    rw [← Array.all_toList]
    show (TL.tl w).all Unicode.isDigit = _
    have key : ∀ l : List Nat, (∀ c ∈ l, c < 128) → l.all Unicode.isDigit = l.all dig := by
      intro l
      induction l with
      | nil => intro _; rfl
      | cons c l ih =>
        intro hl
        rw [List.all_cons, List.all_cons, dig_uni c (hl c List.mem_cons_self), ih fun d hd => hl d (List.mem_cons_of_mem _ hd)]
    exact key _ h
  show (decide (0 < w.length) && w.cps.all Unicode.isDigit) = _
  rw [e2]
  rw [show decide (0 < w.length) = decide (TL.tl w ≠ []) from e1]
theorem str_eq {a b : Str} : (a = b) ↔ TL.tl a = TL.tl b := ⟨fun h => by rw [h], TL.ext_tl⟩
theorem headS_tl (w : Str) : TL.tl (headS w) = [(TL.tl w).headD 0] := rfl
theorem countF_eq {w : Str} (h : Asc w) : countF w = countL (TL.tl w) := by
  unfold countF countL
  rw [isdigit_asc h]
  have e1 : decide (w = s0) = decide (TL.tl w = [48]) := decide_eq_decide.mpr (by rw [str_eq, tl_s0])
  have e2 : decide (headS w = s0) = decide ((TL.tl w).headD 0 = 48) := decide_eq_decide.mpr (by
    rw [str_eq, tl_s0, headS_tl]
    exact ⟨fun z => (List.cons.inj z).1, fun z => by rw [z]⟩)
  rw [e1, e2]
theorem starts_iff {w : Str} : Txt.startswith w sMinus = decide ((TL.tl w).headD 0 = 45 ∧ TL.tl w ≠ []) := by
  cases e : TL.tl w with
  | nil =>
    have hl : w.length = 0 := by rw [TL.len_tl, e]; rfl
    have hm : sMinus.length = 1 := rfl
    unfold Txt.startswith
    rw [hl, hm]
    simp
  | cons c r =>
    by_cases hc : c = 45
    · subst hc
      rw [starts_minus e]
      simp
    · have hm : sMinus.length = 1 := rfl
      have z : Txt.startswith w sMinus = false := by
        cases z : Txt.startswith w sMinus with
        | false => rfl
        | true =>
          exfalso
          unfold Txt.startswith at z
          rw [Bool.and_eq_true] at z
          have q := z.2
          unfold Builtin.Str.subAt at q
          rw [beq_iff_eq] at q
          have q2 := congrArg Array.toList q
          have q3 : (w.cps.extract 0 (0 + sMinus.length)).toList = (TL.tl w).take 1 := by
            rw [hm]
            simp [TL.tl]
          rw [q3, e] at q2
          have q4 : [c] = [45] := q2.trans tl_sMinus
          exact hc (List.cons.inj q4).1
      rw [z]
      simp [hc]
theorem numF_eq {w : Str} (h : Asc w) : numF w = numB (TL.tl w) := by
  unfold numF numB
  rw [countF_eq h, starts_iff]
  have h2 : Asc (cutS w (some 1) none) := fun c hc => by
    rw [cut1_tl] at hc
    exact h c (List.mem_of_mem_drop hc)
  rw [countF_eq h2, cut1_tl]
  have e1 : decide (w = sMinus0) = decide (TL.tl w = [45, 48]) := decide_eq_decide.mpr (by rw [str_eq, tl_sMinus0])
  rw [e1]
/-- the law's own look -/
def digsL (l : List Nat) : List Nat := if l.headD 0 = 45 ∧ l ≠ [] then l.drop 1 else l
def lawB (l : List Nat) : Bool := decide (digsL l ≠ []) && (digsL l).all dig && !(decide ((digsL l).headD 0 = 48) && !decide (l = [48]))
theorem law_num (l : List Nat) : lawB l = numB l := by
  unfold lawB numB digsL countL
  match l with
  | [] => rfl
  | c :: r =>
    by_cases hc : c = 45
    · subst hc
      have e : dig 45 = false := by decide
      simp only [List.headD_cons, List.drop_succ_cons, List.drop_zero, List.all_cons, e]
      cases r with
      | nil => simp
      | cons d t =>
        by_cases h : d = 48
        · subst h
          cases t with
          | nil => simp
          | cons _ _ => simp
        · simp [h]
    · have e : ¬ ((c :: r).headD 0 = 45 ∧ c :: r ≠ []) := fun z => hc z.1
      rw [if_neg e]
      simp only [List.headD_cons, List.all_cons]
      by_cases h : c = 48
      · subst h
        cases r with
        | nil => simp [dig]
        | cons _ _ => simp
      · simp [h, hc]
/-- the number that stands there -/
def numV (w : Str) : Option Int := if numF w = true then intText? w else none
theorem digs_of : ∀ {l : List Nat}, l.all dig = true → NumText.AllDigits l := fun {l} h c hc => by
  have q := List.all_eq_true.mp h c hc
  unfold dig at q
  exact of_decide_eq_true q
theorem countL_digs {l : List Nat} (h : countL l = true) : l ≠ [] ∧ l.all dig = true := by
  unfold countL at h
  rcases Bool.or_eq_true _ _ ▸ h with z | z
  · rw [of_decide_eq_true z]
    exact ⟨by simp, by decide⟩
  · simp only [Bool.and_eq_true, decide_eq_true_eq] at z
    exact ⟨z.1.1, z.1.2⟩
theorem val_lt : ∀ {l : List Nat} {n k : Nat}, l.all dig = true → n < 10 ^ k → l.foldl (fun acc c => acc * 10 + (c - 48)) n < 10 ^ (k + l.length)
  | [], n, k, _, h => h
  | c :: r, n, k, hd, h => by
    rw [List.all_cons, Bool.and_eq_true] at hd
    have hc := of_decide_eq_true hd.1
    have e : 10 ^ (k + 1) = 10 ^ k * 10 := Nat.pow_succ ..
    have q := val_lt (l := r) (n := n * 10 + (c - 48)) (k := k + 1) hd.2 (by omega)
    rw [List.foldl_cons, List.length_cons]
    rw [show k + (r.length + 1) = k + 1 + r.length by omega]
    exact q
/-- a number that is written rightly can be read, and is not larger than its signs -/
theorem numV_some {w : Str} (h : Asc w) (hl : w.length ≤ 4000) (hn : numF w = true) : ∃ i, intText? w = some i ∧ i.natAbs < 10 ^ w.length := by
  rw [numF_eq h] at hn
  unfold numB at hn
  have hlen := TL.len_tl w
  rcases Bool.or_eq_true _ _ ▸ hn with z | z
  · obtain ⟨h1, h2⟩ := countL_digs z
    refine ⟨_, intText_digits (digs_of h2) h1 (by omega), ?_⟩
    have q := val_lt (n := 0) (k := 0) h2 (by decide)
    rw [Nat.zero_add, ← hlen] at q
    exact q
  · simp only [Bool.and_eq_true, decide_eq_true_eq] at z
    obtain ⟨⟨z1, z2⟩, z3, z4⟩ := z
    obtain ⟨h1, h2⟩ := countL_digs z4
    cases e : TL.tl w with
    | nil => exact absurd e z2
    | cons c r =>
      rw [e] at z1 h1 h2
      have hc : c = 45 := z1
      subst hc
      refine ⟨_, intText_neg e (digs_of h2) h1 (by omega), ?_⟩
      have q := val_lt (n := 0) (k := 0) h2 (by decide)
      rw [Nat.zero_add, List.drop_succ_cons, List.drop_zero] at q
      rw [Int.natAbs_neg, Int.natAbs_natCast]
      refine Nat.lt_of_lt_of_le q (Nat.pow_le_pow_right (by decide) ?_)
      rw [hlen, e, List.length_cons]
      omega
theorem smT_take {B : Nat} {ts : List (List Int)} (h : SmT B ts) (n : Nat) : SmT B (ts.take n) := fun t ht => h t (List.mem_of_mem_take ht)
theorem smT_rev {B : Nat} {ts : List (List Int)} (h : SmT B ts) : SmT B ts.reverse := fun t ht => h t (List.mem_reverse.mp ht)
theorem smT_set {B : Nat} {ts : List (List Int)} {u : List Int} (h : SmT B ts) (hu : ∀ n ∈ u, n.natAbs ≤ B) (j : Nat) : SmT B (ts.set j u) := fun t ht => by
  rcases List.mem_or_eq_of_mem_set ht with z | rfl
  · exact h t z
  · exact hu
theorem smT_rep {B : Nat} {ts : List (List Int)} (h : SmT B ts) (k : Nat) : SmT B (List.replicate k ts).flatten := fun t ht => by
  obtain ⟨us, hu, hm⟩ := List.mem_flatten.mp ht
  rw [(List.mem_replicate.mp hu).2] at hm
  exact h t hm
theorem smT_pts {D : Int} {B : Nat} {ps : List Pt} (h : Bd D ps) (e : D ≤ B) : SmT B (ps.map l2) := fun t ht n hn => by
  obtain ⟨p, hp, rfl⟩ := List.mem_map.mp ht
  have q := h p hp
  rcases List.mem_cons.mp hn with rfl | hn
  · omega
  · rw [List.mem_singleton.mp hn]
    omega
theorem lts_eq {xs : List Dt} {ts : List (List Int)} (h : xs = ts.map T1) : Dt.lst xs = Lts ts := by rw [h]
/-! a list that is handed on as data from now on -/
theorem del_put {M : Mm} {a : Addr} {c : Cell} (h : M a = none) : del (put M a c) a = M := by
  funext b
  unfold del
  by_cases hb : b = a
  · rw [if_pos hb, hb, h]
  · rw [if_neg hb, put_ne hb]
theorem sx_freeze {K : PySem.W.Frag} {ρ : Rho} {M : Mm} {F : Es} {ts : TS} (i : Nat) {a : Addr} {xs : List Dt} (hi : ρ[i]? = some (some (.raw (.ref a)))) (hm : M a = some (.lst xs)) (h : SX K ts (ρ.set i (some (.lst xs))) (del M a) F) : SX K ts ρ M F := fun B H H1 σ D o s r => by
  obtain ⟨h1, h2, vs, h3, h4⟩ := o.m a _ hm
  obtain ⟨o', e'⟩ := o.freeze hm h3
  obtain ⟨v, q1, q2⟩ := s.get i _ hi
  have q3 := q2.raw_inv
  subst q3
  refine h B _ H1 σ D o' ?_ (r.mono e')
  have s2 := (s.mono e').set (i := i) (v := .ref a) (d := .lst xs) (.lst upd_same (h4.mono e'))
  have e : σ.set i (some (.ref a)) = σ := by
    apply List.ext_getElem?
    intro j
    by_cases hj : i = j
    · subst hj
      have hl := (List.getElem?_eq_some_iff.mp q1).1
      rw [List.getElem?_set_self hl, q1]
    · rw [List.getElem?_set_ne hj]
  rw [e] at s2
  exact s2
theorem badFrom_le : ∀ {ts : List (List Int)} {k i : Nat}, badFrom k ts = some i → i < k + ts.length
  | [], k, i, h => by cases h
  | t :: ts, k, i, h => by
    unfold badFrom at h
    rw [List.length_cons]
    split at h
    · cases h
      omega
    · have := badFrom_le h
      omega
theorem badP_le {ts : List (List Int)} {i : Nat} (h : badP ts = some i) : i ≤ ts.length := by
  unfold badP at h
  cases e : badFrom 0 ts with
  | some j =>
    rw [e] at h
    cases h
    have := badFrom_le e
    omega
  | none =>
    rw [e] at h
    dsimp only at h
    split at h
    · cases h
      exact Nat.le_refl _
    · cases h
/-! points read, or not -/
def ptV (w : Str) : Option Pt := match Txt.split w sComma with
  | [a, b] => (match numV a, numV b with
    | some x, some y => some (x, y)
    | _, _ => none)
  | _ => none
def rdV (w : Str) : List (Option Pt) := (Txt.split w sBlank).map ptV
def badWs : List (Option Pt) → Option Nat
  | [] => none
  | none :: _ => some 0
  | some _ :: r => (badWs r).map (· + 1)
theorem badWs_at : ∀ {os : List (Option Pt)} {i : Nat}, (∀ j o, j < i → os[j]? = some o → o ≠ none) → os[i]? = some none → badWs os = some i
  | [], i, _, h => by simp at h
  | none :: r, 0, _, _ => rfl
  | some p :: r, 0, _, h => by simp at h
  | none :: r, i + 1, hj, _ => absurd rfl (hj 0 none (by omega) rfl)
  | some p :: r, i + 1, hj, h => by
    have q := badWs_at (os := r) (i := i) (fun j o hl ho => hj (j + 1) o (by omega) (by simpa using ho)) (by simpa using h)
    show (badWs r).map (· + 1) = some (i + 1)
    rw [q] <;> rfl
theorem badWs_none : ∀ {os : List (Option Pt)}, badWs os = none ↔ ∃ ps : List Pt, os = ps.map some
  | [] => ⟨fun _ => ⟨[], rfl⟩, fun _ => rfl⟩
  | none :: r => ⟨fun h => (by cases h), fun ⟨ps, h⟩ => by cases ps <;> cases h⟩
  | some p :: r => by
    have ih := badWs_none (os := r)
    constructor
    · intro h
      have h2 : badWs r = none := by
        cases e : badWs r with
        | none => rfl
        | some i =>
          have z : (badWs r).map (· + 1) = none := h
          rw [e] at z
          cases z
      obtain ⟨ps, rfl⟩ := ih.mp h2
      exact ⟨p :: ps, rfl⟩
    · rintro ⟨ps, h⟩
      cases ps with
      | nil => cases h
      | cons q ps =>
        have e := (List.cons.inj h).2
        show (badWs r).map (· + 1) = none
        rw [ih.mpr ⟨ps, e⟩] <;> rfl
theorem badWs_lt : ∀ {os : List (Option Pt)} {i : Nat}, badWs os = some i → i < os.length
  | [], i, h => by cases h
  | none :: r, i, h => by
    cases h
    simp
  | some p :: r, i, h => by
    have z : (badWs r).map (· + 1) = some i := h
    obtain ⟨j, e, rfl⟩ := Option.map_eq_some_iff.mp z
    have := badWs_lt e
    rw [List.length_cons]
    omega
inductive TR where
  | bad (i : Nat)
  | text (i : Nat)
  | poly (ps : List Pt)
def polyF (ts : List (List Int)) : TR := match badP ts with
  | some i => .bad i
  | none => .poly (ts.map toPt)
def textF (w : Str) : TR := match badWs (rdV w) with
  | some i => .text i
  | none => polyF (((rdV w).map fun o => o.getD (0, 0)).map l2)
abbrev sText : Str := "text"
def trD : TR → Dt
  | .bad i => .lst [.str sPolygon, .int (i : Nat)]
  | .text i => .lst [.str sText, .int (i : Nat)]
  | .poly ps => Pts ps
def oI : Option Int → Dt
  | none => .non
  | some i => .int i
def oP : Option Pt → Dt
  | none => .non
  | some p => P2 p
theorem getD_some (ps : List Pt) : (ps.map some).map (fun o => o.getD (0, 0)) = ps := by
  rw [List.map_map]
  exact List.map_id ps
theorem textF_some {w : Str} {ps : List Pt} (h : rdV w = ps.map some) : textF w = polyF (ps.map l2) := by
  unfold textF
  rw [badWs_none.mpr ⟨ps, h⟩, h]
  dsimp only
  rw [getD_some]
/-! sizes -/
def Bg (ps : List Pt) : Prop := ∀ p ∈ ps, p.1.natAbs < 2 ^ 1000 ∧ p.2.natAbs < 2 ^ 1000
theorem wI_len3 {i : Int} (h : i.natAbs < 2 ^ 1000) : (wI i).length ≤ 303 := by
  have b : (2 : Nat) ^ 1000 < 10 ^ 302 := by decide +kernel
  rw [TL.len_tl]
  rcases wI_cases i with ⟨n, en, e⟩ | ⟨n, en, e⟩
  · rw [e]
    have q := TL.numL_len (n := n) (k := 302) (by decide) (by omega)
    omega
  · rw [e, List.length_cons]
    have q := TL.numL_len (n := n + 1) (k := 302) (by decide) (by omega)
    omega
theorem log_lt3 {i : Int} (h : i.natAbs < 2 ^ 1000) : i.natAbs.log2 < 1920 := Nat.lt_of_lt_of_le (PySem.Flt.log2_lt_of (by decide) h) (by decide)
theorem tP_len3 {p : Pt} (h : p.1.natAbs < 2 ^ 1000 ∧ p.2.natAbs < 2 ^ 1000) : (tP p).length ≤ 620 := by
  have h1 := wI_len3 h.1
  have h2 := wI_len3 h.2
  have e : tP p = sOpen ++ ((wI p.1 ++ sSep) ++ wI p.2) ++ sShut := by
    rw [tP_eq]
    rfl
  rw [e]
  rw [TL.len_tl] at h1 h2 ⊢
  rw [TL.tl_append, TL.tl_append, TL.tl_append, TL.tl_append, List.length_append, List.length_append, List.length_append, List.length_append]
  have e1 : (TL.tl sOpen).length = 1 := by decide +kernel
  have e2 : (TL.tl sShut).length = 1 := by decide +kernel
  have e3 : (TL.tl sSep).length = 2 := by decide +kernel
  omega
theorem showable_p3 {p : Pt} (h : p.1.natAbs < 2 ^ 1000 ∧ p.2.natAbs < 2 ^ 1000) : (toP (P2 p)).showable = true := by
  rw [toP, toPs, toPs, toPs, toP, toP]
  simp only [PyData.showable, PyData.showableAll, log_lt3 h.1, log_lt3 h.2]
  rfl
theorem showableAll3 : ∀ {ps : List Pt}, Bg ps → PyData.showableAll (toPs (ps.map P2)) = true
  | [], _ => by
    rw [List.map_nil, toPs]
    simp only [PyData.showableAll]
  | p :: ps, h => by
    rw [List.map_cons, toPs]
    simp only [PyData.showableAll]
    rw [showable_p3 (h p List.mem_cons_self), showableAll3 fun q hq => h q (List.mem_cons_of_mem _ hq)] <;> rfl
theorem sumT3 : ∀ {ps : List Pt}, Bg ps → ((ps.map tP).map (·.length)).sum ≤ 620 * ps.length
  | [], _ => Nat.zero_le _
  | p :: ps, h => by
    have h1 := tP_len3 (h p List.mem_cons_self)
    have h2 := sumT3 fun q hq => h q (List.mem_cons_of_mem _ hq)
    rw [List.map_cons, List.map_cons, List.sum_cons, List.length_cons]
    omega
theorem sh_pts3 {ps : List Pt} (h : Bg ps) (hl : ps.length ≤ 8) : Sh (Pts ps) := by
  refine ⟨plain_pts ps, ?_, ?_⟩
  · show (toP (.tup (ps.map P2))).showable = true
    rw [toP]
    simp only [PyData.showable]
    exact showableAll3 h
  · rw [shD_pts]
    have h1 := tupleText_len_le (ps.map tP)
    have h2 := sumT3 h
    rw [List.length_map] at h1
    exact Nat.le_trans (m := 6000) (by omega) (by decide)
theorem sh_tag {s : Str} {i : Nat} (h : i ≤ 10000) (h1 : PyData.canLay0 (.str s) = true) (h2 : (PyData.str s).showable = true) (h3 : (reprText s).length ≤ 20) : Sh (.lst [.str s, .int (i : Nat)]) := by
  have hi : ((i : Int)).natAbs < 2 ^ 200 := by omega
  have hl := wI_len hi
  refine ⟨?_, ?_, ?_⟩
  · show (true && (PyData.canLay0 (.str s) && (true && true))) = true
    rw [h1] <;> rfl
  · rw [toP, toPs, toPs, toPs, toP, toP]
    simp only [PyData.showable, PyData.showableAll, log_lt hi]
    simp only [PyData.showable] at h2
    simp [h2]
  · unfold shD
    rw [toP, toPs, toPs, toPs, toP, toP]
    simp only [PyData.shown, PyData.shownAll]
    have q := listText_len_le [reprText s, wI (i : Int)]
    refine Nat.le_trans q (Nat.le_trans (m := 200) ?_ (by decide))
    simp only [List.map_cons, List.map_nil, List.sum_cons, List.sum_nil, List.length_cons, List.length_nil]
    omega
theorem sh_poly {ts : List (List Int)} (h : ∀ t ∈ ts, ∀ n ∈ t, n.natAbs < 2 ^ 1000) (hl : ts.length ≤ 1000) : Sh (trD (polyF ts)) := by
  unfold polyF
  cases e : badP ts with
  | some i => exact sh_tag (by have := badP_le e; omega) (by decide +kernel) (by decide +kernel) (by decide +kernel)
  | none =>
    obtain ⟨h3, h8, hp, e2⟩ := badP_none e
    refine sh_pts3 (fun p hq => ?_) (by rw [List.length_map]; exact h8)
    obtain ⟨t, ht, rfl⟩ := List.mem_map.mp hq
    have hl2 := hp t ht
    match t, hl2, ht with
    | [a, b], _, ht => exact ⟨h _ ht a List.mem_cons_self, h _ ht b (List.mem_cons_of_mem _ List.mem_cons_self)⟩
/-- a text that may be read -/
def Rd (w : Str) : Prop := Asc w ∧ w.length ≤ 300
theorem numV_lt {w : Str} (h : Rd w) {i : Int} (e : numV w = some i) : i.natAbs < 2 ^ 1000 := by
  unfold numV at e
  split at e
  · rename_i hn
    obtain ⟨j, e1, e2⟩ := numV_some h.1 (by have := h.2; omega) hn
    rw [e1] at e
    cases e
    have b : (10 : Nat) ^ 300 < 2 ^ 1000 := by decide +kernel
    have q : 10 ^ w.length ≤ 10 ^ 300 := Nat.pow_le_pow_right (by decide) h.2
    omega
  · cases e
theorem rd_blank {w : Str} (h : Rd w) : (∀ p ∈ Txt.split w sBlank, Rd p) ∧ (Txt.split w sBlank).length ≤ 301 ∧ Txt.split w sBlank ≠ [] := by
  obtain ⟨h1, h2, h3⟩ := split_pieces (w := w) tl_sBlank (by decide +kernel)
  exact ⟨fun p hp => ⟨(h1 p hp).2 h.1, Nat.le_trans (h1 p hp).1 h.2⟩, Nat.le_trans h2 (Nat.succ_le_succ h.2), h3⟩
theorem rd_comma {w : Str} (h : Rd w) : (∀ p ∈ Txt.split w sComma, Rd p) ∧ (Txt.split w sComma).length ≤ 301 ∧ Txt.split w sComma ≠ [] := by
  obtain ⟨h1, h2, h3⟩ := split_pieces (w := w) tl_sComma (by decide +kernel)
  exact ⟨fun p hp => ⟨(h1 p hp).2 h.1, Nat.le_trans (h1 p hp).1 h.2⟩, Nat.le_trans h2 (Nat.succ_le_succ h.2), h3⟩
theorem ptV_lt {w : Str} (h : Rd w) {p : Pt} (e : ptV w = some p) : p.1.natAbs < 2 ^ 1000 ∧ p.2.natAbs < 2 ^ 1000 := by
  have hc := (rd_comma h).1
  unfold ptV at e
  split at e
  · rename_i a b es
    rw [es] at hc
    split at e
    · rename_i x y ex ey
      cases e
      exact ⟨numV_lt (hc a List.mem_cons_self) ex, numV_lt (hc b (List.mem_cons_of_mem _ List.mem_cons_self)) ey⟩
    · cases e
  · cases e
theorem sh_text {w : Str} (h : Rd w) : Sh (trD (textF w)) := by
  obtain ⟨h1, h2, h3⟩ := rd_blank h
  have hl : (rdV w).length ≤ 301 := by
    unfold rdV
    rw [List.length_map]
    exact h2
  unfold textF
  cases e : badWs (rdV w) with
  | some i => exact sh_tag (by have := badWs_lt e; omega) (by decide +kernel) (by decide +kernel) (by decide +kernel)
  | none =>
    obtain ⟨ps, hp⟩ := badWs_none.mp e
    have hb : Bg ps := fun p hq => by
      have hm : some p ∈ rdV w := by
        rw [hp]
        exact List.mem_map_of_mem hq
      unfold rdV at hm
      obtain ⟨u, hu, eu⟩ := List.mem_map.mp hm
      exact ptV_lt (h1 u hu) eu
    dsimp only
    rw [hp, getD_some]
    refine sh_poly (fun t ht n hn => ?_) ?_
    · obtain ⟨p, hq, rfl⟩ := List.mem_map.mp ht
      have z := hb p hq
      rcases List.mem_cons.mp hn with rfl | hn
      · exact z.1
      · rw [List.mem_singleton.mp hn]
        exact z.2
    · rw [hp, List.length_map] at hl
      rw [List.length_map]
      omega
theorem ptV_len {w : Str} (h : (Txt.split w sComma).length ≠ 2) : ptV w = none := by
  unfold ptV
  split
  · rename_i a b e
    rw [e] at h
    exact absurd rfl h
  · rfl
theorem ptV_two {w u v : Str} (h : Txt.split w sComma = [u, v]) : ptV w = match numV u, numV v with
    | some x, some y => some (x, y)
    | _, _ => none := by
  unfold ptV
  rw [h]
theorem rdV_get {w p : Str} {i : Nat} (h : (Txt.split w sBlank)[i]? = some p) : (rdV w)[i]? = some (ptV p) := by
  unfold rdV
  rw [List.getElem?_map, h] <;> rfl
section
open PySem.Spec PyProof.Rows
theorem pe_mkX0 {X : Cx} {k j : Nat} {C : Addr} {x : Str} {sp : Sp} {p pos : Pos} {E : XK} (c : MkX X.prog X.w X.K X.mg X.base k C x sp) (hx : Passes (L2.CX X.prog X.w) X E) (hr : Room j X.A) (hk : k + 1 ≤ j) (hg : Gl X x) (hd : (x == ("__debug__" : Str)) = false := by decide) :
    PE X (.Call (.Name x p) [] [] pos) (StX.tMakeR C sp E tNil) := by
  obtain ⟨f, M, F⟩ := c.ex
  refine ⟨fun pins s σ H Q I h => ?_⟩
  refine wpAny_Call_Name_kw (ld_glob I hg c.gl ?_ hd)
  exact PySem.W.callWith_K0 I.kIn M.kp (StX.run_makeR (us := []) M F (hr.mono hk) hx I .nil h)
end
theorem ey_if {K : PySem.W.Frag} {E : XK} {XP : XD} {ρ : Rho} {M : Mm} {Φ : Dt → Mm → Prop} {t : TT} {ta tb : TE} (h : TX K t ρ M (fun b M1 => (b = true → EY K E XP ta ρ M1 Φ) ∧ (b = false → EY K E XP tb ρ M1 Φ))) : EY K E XP (tIf t ta tb) ρ M Φ := fun B H H1 σ o s x Q q =>
  h B H H1 σ o s _ fun b M' H' H2 z k e => by
    cases b with
    | true => exact iteT (z.1 rfl B H' H2 σ k (s.mono e) (x.mono e) Q fun v d M3 H3 H4 z2 k2 e2 => q v d M3 H3 H4 z2 k2 (e.trans e2))
    | false => exact iteF (z.2 rfl B H' H2 σ k (s.mono e) (x.mono e) Q fun v d M3 H3 H4 z2 k2 e2 => q v d M3 H3 H4 z2 k2 (e.trans e2))
theorem kitAny3 {K : PySem.W.Frag} {t a b c : Value} (h1 : PySem.W.kitOne K t a = some false) (h2 : PySem.W.kitOne K t b = some false) (h3 : PySem.W.kitOne K t c = some false) : PySem.W.kitAny K t [a, b, c] = some false := by
  unfold PySem.W.kitAny
  rw [h1]
  exact kitAny2 h2 h3
structure XT3 (P : Program) (K : PySem.W.Frag) (mg : Str → Option Value) (WE BP BT NC BJ : Addr) : Prop where
  m_WE : mg "WalkError" = some (.ref WE)
  m_NC : mg "NotClosed" = some (.ref NC)
  m_BJ : mg "BadJoint" = some (.ref BJ)
  eP : ExF P K mg "BadPolygon" "index" BP WE
  eT : ExF P K mg "BadText" "index" BT WE
  PT : PySem.W.kitOne K (.ref BP) (.ref BT) = some false
  PN : PySem.W.kitOne K (.ref BP) (.ref NC) = some false
  PJ : PySem.W.kitOne K (.ref BP) (.ref BJ) = some false
  TP : PySem.W.kitOne K (.ref BT) (.ref BP) = some false
  TN : PySem.W.kitOne K (.ref BT) (.ref NC) = some false
  TJ : PySem.W.kitOne K (.ref BT) (.ref BJ) = some false
/-! the promises -/
section
variable (K : PySem.W.Frag) (C BP BT : Addr)
abbrev spCount3 : Sp := spCount K
abbrev spReadX : Sp := SpX K (fun (w : Str) ds M => ds = [.str w] ∧ Rd w) (fun w M d M' => ∃ ps, rdV w = ps.map some ∧ d = Lps ps ∧ M' = M)
  (fun w M C' gs M' => C' = BT ∧ M' = M ∧ ∃ i : Nat, badWs (rdV w) = some i ∧ gs = [(sIndex, .int i)])
abbrev initPost : Addr × List (List Int) → Mm → Dt → Mm → Prop := fun x M d M' => badP x.2 = none ∧ d = .non ∧ M' = put M x.1 (.ins C [("points", Tts x.2)])
abbrev initXp : Addr × List (List Int) → Mm → XD := fun x M C' gs M' => C' = BP ∧ M' = M ∧ ∃ i : Nat, badP x.2 = some i ∧ gs = [(sIndex, .int i)]
abbrev spInitXB : Sp := SpX K (fun (x : Addr × List (List Int)) ds M => ds = [.raw (.ref x.1), Tts x.2] ∧ M x.1 = some (.ins C []) ∧ x.2.length ≤ 1000) (initPost C) (initXp BP)
abbrev spInitX : Sp := SpX K (fun (x : Addr × List (List Int)) ds M => ds = .raw (.ref x.1) :: x.2.map T1 ∧ M x.1 = some (.ins C []) ∧ x.2.length ≤ 1000) (initPost C) (initXp BP)
abbrev spParseX : Sp := SpX K (fun (w : Str) ds M => ds = [.raw (.ref C), .str w] ∧ Rd w) (fun w M d M' => ∃ ps, textF w = .poly ps ∧ d = polyD C ps ∧ M' = M)
  (fun w M C' gs M' => M' = M ∧ ((C' = BT ∧ ∃ i : Nat, textF w = .text i ∧ gs = [(sIndex, .int i)]) ∨ (C' = BP ∧ ∃ i : Nat, textF w = .bad i ∧ gs = [(sIndex, .int i)])))
abbrev spTried : Sp := SpX K (fun (ts : List (List Int)) ds M => ds = [Lts ts] ∧ ts.length ≤ 10) (fun ts M d M' => ∃ ps, polyF ts = .poly ps ∧ d = polyD C ps ∧ M' = M)
  (fun ts M C' gs M' => M' = M ∧ C' = BP ∧ ∃ i : Nat, polyF ts = .bad i ∧ gs = [(sIndex, .int i)])
abbrev spInteger : Sp := SpP K (fun (w : Str) => [.str w]) Rd (fun w => oI (numV w))
abbrev spPoint : Sp := SpP K (fun (w : Str) => [.str w]) Rd (fun w => oP (ptV w))
abbrev spDue3 : Sp := SpP K (fun (ts : List (List Int)) => [Lts ts]) (fun ts => ts.length ≤ 1000) (fun ts => trD (polyF ts))
abbrev spDueT : Sp := SpP K (fun (w : Str) => [.str w]) Rd (fun w => trD (textF w))
abbrev encT : List (List Int) ⊕ Str → List Dt
  | .inl ts => [Lts ts, .int 0]
  | .inr w => [.str w, .int 1]
abbrev okT : List (List Int) ⊕ Str → Prop
  | .inl ts => ts.length ≤ 10
  | .inr w => Rd w
def valT : List (List Int) ⊕ Str → TR
  | .inl ts => polyF ts
  | .inr w => textF w
abbrev spTold3 : Sp := SpP K encT okT (fun x => trD (valT x))
end
theorem poly_of {C : Addr} {ts : List (List Int)} (hg : badP ts = none) : ∃ ps, polyF ts = .poly ps ∧ Dt.obj C [("points", Tts ts)] = polyD C ps := by
  obtain ⟨h3, h8, hp, e⟩ := badP_none hg
  refine ⟨ts.map toPt, by unfold polyF; rw [hg], ?_⟩
  show Dt.obj C [("points", Tts ts)] = Dt.obj C [("points", Pts (ts.map toPt))]
  rw [← tts_l2, e]
theorem poly_bad {ts : List (List Int)} {i : Nat} (h : badP ts = some i) : polyF ts = .bad i := by
  unfold polyF
  rw [h]
end Wk
/-! ## WkW4 -/
namespace Wk
open PySem L2 Evl
section
variable {K : PySem.W.Frag} {ρ : Rho} {M : Mm} {Φ : Dt → Mm → Prop} {te to : TE} {t : TA}
/-- for c in text -/
def signs (x : Str) : List Dt := (TL.tl x).map fun c => .str ⟨#[c]⟩
theorem ix_str {Ψ : List Dt → (Mm → Prop) → Mm → Prop} (h : EX K te ρ M (fun d M1 => ∃ x, d = .str x ∧ Ψ (signs x) (fun _ => True) M1)) : IX K (iStr te) ρ M Ψ := fun B H H1 σ o s R q =>
  h B H H1 σ o s _ fun v d M' H' H2 z k e r => by
    obtain ⟨x, rfl, z⟩ := z
    have hl : (signs x).length = x.cps.size := by
      unfold signs
      rw [List.length_map]
      exact Array.length_toList
    refine ⟨x, r.str_inv, q _ _ _ M' H' H2 z k e ⟨fun i _ _ _ _ hi _ _ _ => by rw [hl] at hi; exact hi, fun _ _ _ _ _ _ _ => by rw [hl]; exact Nat.le_refl _, fun i v H5 _ H3 H4 M3 hi _ _ _ y => ?_⟩⟩
    obtain ⟨y1, c, y2, y3⟩ := y
    refine .inl ⟨y1, .str ⟨#[c]⟩, ?_, ?_⟩
    · unfold signs
      rw [List.getElem?_map]
      have e2 : (TL.tl x)[i]? = some c := by
        show x.cps.toList[i]? = some c
        rw [Array.getElem?_toList, y2]
      rw [e2] <;> rfl
    · rw [y3]
      exact .str _
theorem rx_notIn_sign {c : Nat} {z : Str} (k : Φ (.bl (!decide (c ∈ TL.tl z))) M) : RX K (fun x y H Q => ∃ (c : Nat) (z : Str), x = .str ⟨#[c]⟩ ∧ y = .str z ∧ Q (.bl (!decide (c ∈ z.cps.toList))) H) (.str ⟨#[c]⟩) (.str z) M Φ := rx_done (fun H vx vy Q rx ry q => ⟨c, z, rx.str_inv, ry.str_inv, q⟩) (fun _ => .bl _) k
theorem rx_isN_oI {a : Option Int} (k : Φ (.bl (decide (a = none))) M) : RX K (fun x y H Q => y = .non ∧ Q (.bl (decide (x = .non))) H) (oI a) .non M Φ := by
  cases a with
  | none => exact rx_done (z := .bl (decide (V.non = V.non))) (fun H vx vy Q rx ry q => ⟨ry.non_inv, by rw [(show Rp K H vx .non from rx).non_inv]; exact q⟩) (fun _ => .bl _) k
  | some i => exact rx_done (z := .bl (decide (V.int i = V.non))) (fun H vx vy Q rx ry q => ⟨ry.non_inv, by rw [(show Rp K H vx (.int i) from rx).int_inv]; exact q⟩) (fun _ => by
      rw [show decide (V.int i = V.non) = decide (some i = none) from rfl]
      exact .bl _) k
/-- x in a list of data -/
theorem rx_inD {x : Dt} {xs : List Dt} (hx : plain 60 x = true) (hy : plain 60 (.lst xs) = true) (k : Φ (.bl ((toPs xs).any fun z => PyData.eqv z (toP x))) M) : RX K (rInD K) x (.lst xs) M Φ := rx_done (fun H vx vy Q rx ry q => ⟨toP x, toPs xs, dp_of rx hx, by
  have z := dp_of ry hy
  rw [toP] at z
  exact z, shaped_by hx, by
  have z := shaped_by hy
  rw [toP] at z
  exact z, q⟩) (fun _ => .bl _) k
theorem ex_indexD {x : Dt} {xs : List Dt} {j : Nat} {z : PyData} (hx : plain 60 x = true) (hy : plain 60 (.lst xs) = true) (hj : (toPs xs)[j]? = some z) (he : PyData.eqv z (toP x) = true) (hm : ∀ (m : Nat) (z' : PyData), m < j → (toPs xs)[m]? = some z' → PyData.eqv z' (toP x) = false)
    (h : EX K to ρ M (fun d M1 => d = .lst xs ∧ AX K t ρ M1 (fun ds M2 => ds = [x] ∧ Φ (.int (j : Nat)) M2))) : EX K (tBM K "list" (rIndexD K) to t) ρ M Φ := fun B H H1 σ o s Q q =>
  h B H H1 σ o s _ fun v d M1 H2 H3 z1 k e r => by
    obtain ⟨rfl, z1⟩ := z1
    obtain ⟨a, us, rfl, h1, r1⟩ := r.lst_inv
    refine ⟨Or.inl ⟨rfl, us, sq_of (k.h _ _ h1)⟩, z1 B H2 H3 σ k (s.mono e) _ fun vs ds M2 H4 H5 z2 k2 e2 r2 => ?_⟩
    obtain ⟨rfl, z2⟩ := z2
    cases r2 with
    | cons r2 rr =>
      cases rr
      have d1 := dp_of ((r.mono e2).mono k2.h) hy
      rw [toP] at d1
      have s1 := shaped_by hy
      rw [toP] at s1
      exact ⟨a, _, toP x, toPs xs, j, z, rfl, rfl, d1, dp_of (r2.mono k2.h) hx, s1, shaped_by hx, hj, he, hm, q _ _ _ _ _ z2 k2 (e.trans e2) (.int _)⟩
end
theorem plain_strs : ∀ {xs : List Str}, (∀ x ∈ xs, PyData.strOk x = true) → plain 60 (.lst (xs.map Dt.str)) = true := fun {xs} h => by
  have key : ∀ {xs : List Str}, (∀ x ∈ xs, PyData.strOk x = true) → plains 59 (xs.map Dt.str) = true := by
    intro xs
    induction xs with
    | nil => intro _; rfl
    | cons x xs ih =>
      intro h
      show (PyData.canLay0 (.str x) && plains 59 (xs.map Dt.str)) = true
      rw [ih fun z hz => h z (List.mem_cons_of_mem _ hz)]
      have q := h x List.mem_cons_self
      simp only [PyData.canLay0, q]
      rfl
  show (true && plains 59 (xs.map Dt.str)) = true
  rw [key h] <;> rfl
theorem strOk_one {c : Nat} (h : c < 128) : PyData.strOk ⟨#[c]⟩ = true := by
  have key : ∀ c : Fin 128, PyData.strOk ⟨#[c.val]⟩ = true := by decide +kernel
  exact key ⟨c, h⟩
theorem plain_oP : ∀ (os : List (Option Pt)), plain 60 (.lst (os.map oP)) = true := fun os => by
  have key : ∀ os : List (Option Pt), plains 59 (os.map oP) = true := by
    intro os
    induction os with
    | nil => rfl
    | cons o os ih =>
      cases o with
      | none => exact ih
      | some p => exact ih
  show (true && plains 59 (os.map oP)) = true
  rw [key os] <;> rfl
theorem toPs_get : ∀ {xs : List Dt} {i : Nat}, (toPs xs)[i]? = (xs[i]?).map toP
  | [], i => by rw [toPs]; rfl
  | x :: xs, 0 => by rw [toPs]; rfl
  | x :: xs, i + 1 => by
    rw [toPs, List.getElem?_cons_succ, List.getElem?_cons_succ]
    exact toPs_get
theorem eqv_oP (o : Option Pt) : PyData.eqv (toP (oP o)) (toP .non) = decide (o = none) := by
  cases o with
  | none =>
    show PyData.eqv (toP .non) (toP .non) = true
    rw [toP]
    rfl
  | some p =>
    show PyData.eqv (toP (P2 p)) (toP .non) = false
    rw [toP, toP]
    rfl
theorem any_oP : ∀ os : List (Option Pt), ((toPs (os.map oP)).any fun z => PyData.eqv z (toP .non)) = (badWs os).isSome
  | [] => by rw [List.map_nil, toPs] <;> rfl
  | none :: os => by
    rw [List.map_cons, toPs, List.any_cons, eqv_oP] <;> rfl
  | some p :: os => by
    rw [List.map_cons, toPs, List.any_cons, eqv_oP, any_oP os]
    show (false || _) = ((badWs os).map (· + 1)).isSome
    rw [Bool.false_or, Option.isSome_map]
theorem badWs_first : ∀ {os : List (Option Pt)} {i : Nat}, badWs os = some i → os[i]? = some none ∧ ∀ j o, j < i → os[j]? = some o → o ≠ none
  | [], i, h => by cases h
  | none :: r, i, h => by
    cases h
    exact ⟨rfl, fun j o hj _ => absurd hj (Nat.not_lt_zero _)⟩
  | some p :: r, i, h => by
    have z : (badWs r).map (· + 1) = some i := h
    obtain ⟨k, e, rfl⟩ := Option.map_eq_some_iff.mp z
    have ih := badWs_first e
    refine ⟨by simpa using ih.1, fun j o hj ho => ?_⟩
    cases j with
    | zero =>
      simp at ho
      rw [← ho]
      exact fun q => by cases q
    | succ j => exact ih.2 j o (by omega) (by simpa using ho)
/-! the signs of a text -/
theorem cutTo1_tl (w : Str) : TL.tl (cutS w none (some 1)) = (TL.tl w).take 1 := by
  have h1 : HT.sIx w.length w.length (some 1) = min 1 w.length := by
    unfold HT.sIx
    simp
  have h2 : HT.sIx w.length 0 none = 0 := rfl
  unfold cutS
  show (((w.cps.toList.drop (HT.sIx w.length 0 none)).take (HT.sIx w.length w.length (some 1) - HT.sIx w.length 0 none)).toArray).toList = _
  rw [h1, h2, Nat.sub_zero, List.drop_zero]
  show (TL.tl w).take (min 1 w.length) = _
  have hl := TL.len_tl w
  by_cases hw : w.length = 0
  · have e : TL.tl w = [] := List.length_eq_zero_iff.mp (by rw [← hl, hw])
    rw [e, List.take_nil, List.take_nil]
  · rw [show min 1 w.length = 1 by omega]
theorem cut_minus (w : Str) : decide (cutS w none (some 1) = sMinus) = decide ((TL.tl w).headD 0 = 45 ∧ TL.tl w ≠ []) := decide_eq_decide.mpr (by
  rw [str_eq, cutTo1_tl, tl_sMinus]
  cases TL.tl w with
  | nil => simp
  | cons c r => simp)
abbrev sDigits : Str := "0123456789"
theorem mem_digits : ∀ c : Nat, c < 128 → decide (c ∈ TL.tl sDigits) = dig c := by
  intro c hc
  have key : ∀ c : Fin 128, decide (c.val ∈ TL.tl sDigits) = dig c.val := by decide +kernel
  exact key ⟨c, hc⟩
theorem numV_no {w : Str} (h : Asc w) (hb : lawB (TL.tl w) = false) : numV w = none := by
  unfold numV
  rw [numF_eq h, ← law_num, hb]
  rfl
theorem numV_yes {w : Str} (h : Asc w) (hl : w.length ≤ 4000) (hb : lawB (TL.tl w) = true) : ∃ i, intText? w = some i ∧ numV w = some i := by
  have hn : numF w = true := by rw [numF_eq h, ← law_num, hb]
  obtain ⟨i, e, _⟩ := numV_some h hl hn
  exact ⟨i, e, by unfold numV; rw [if_pos hn, e]⟩
def nd (l : List Nat) : List Str := (l.filter fun c => !dig c).map fun c => ⟨#[c]⟩
theorem nd_empty (l : List Nat) : (nd l).isEmpty = l.all dig := by
  unfold nd
  rw [List.isEmpty_map]
  induction l with
  | nil => rfl
  | cons c l ih =>
    rw [List.filter_cons, List.all_cons]
    cases dig c with
    | true => simpa using ih
    | false => rfl
theorem nd_snoc (l : List Nat) (c : Nat) : nd (l ++ [c]) = nd l ++ (if dig c then [] else [⟨#[c]⟩]) := by
  unfold nd
  rw [List.filter_append, List.map_append]
  congr 1
  rw [List.filter_cons]
  cases dig c <;> rfl
theorem eqB_nil (xs : List Dt) : eqB (.lst xs) (.lst []) = xs.isEmpty := by
  cases xs with
  | nil => rfl
  | cons x xs =>
    show PyData.eqv (toP (.lst (x :: xs))) (toP (.lst [])) = false
    rw [toP, toP, toPs, toPs]
    rfl
theorem one_eq (c d : Nat) : decide ((⟨#[c]⟩ : Str) = ⟨#[d]⟩) = decide (c = d) := decide_eq_decide.mpr ⟨fun h => by
  have q := congrArg TL.tl h
  exact (List.cons.inj (show [c] = [d] from q)).1, fun h => by rw [h]⟩
end Wk
/-! ## WkW5 -/
namespace Wk
open PySem L2 Evl
/-! joined texts -/
theorem asc_joinL : ∀ {ls : List (List Nat)} {S : List Nat}, (∀ c ∈ S, c < 128) → (∀ l ∈ ls, ∀ c ∈ l, c < 128) → ∀ c ∈ TL.joinL S ls, c < 128
  | [], S, _, _, c, hc => by cases hc
  | [l], S, _, h, c, hc => h l List.mem_cons_self c hc
  | l :: m :: ls, S, hS, h, c, hc => by
    have e : TL.joinL S (l :: m :: ls) = l ++ (S ++ TL.joinL S (m :: ls)) := rfl
    rw [e] at hc
    rcases List.mem_append.mp hc with z | z
    · exact h l List.mem_cons_self c z
    · rcases List.mem_append.mp z with z | z
      · exact hS c z
      · exact asc_joinL hS (fun k hk => h k (List.mem_cons_of_mem _ hk)) c z
theorem asc_join {xs : List Str} (h : ∀ x ∈ xs, Asc x) : Asc (Txt.join sBlank xs) := fun c hc => by
  rw [TL.join_eq, TL.tl_join, tl_sBlank] at hc
  refine asc_joinL (S := [32]) (fun d hd => by rw [List.mem_singleton.mp hd]; decide) (fun l hl => ?_) c hc
  obtain ⟨x, hx, rfl⟩ := List.mem_map.mp hl
  exact h x hx
def lenS (xs : List Str) : Nat := (xs.map (·.length)).sum
theorem join_len (xs : List Str) : (Txt.join sBlank xs).length ≤ lenS xs + xs.length := by
  have q := StrLaws.join_length_le sBlank xs
  rw [TL.join_eq]
  have e : sBlank.length = 1 := rfl
  rw [e] at q
  unfold lenS
  omega
theorem lenS_set : ∀ {xs : List Str} {j : Nat} {s : Str}, lenS (xs.set j s) ≤ lenS xs + s.length
  | [], _, _ => Nat.zero_le _
  | x :: xs, 0, s => by
    unfold lenS
    rw [List.set_cons_zero, List.map_cons, List.map_cons, List.sum_cons, List.sum_cons]
    omega
  | x :: xs, j + 1, s => by
    have ih := lenS_set (xs := xs) (j := j) (s := s)
    unfold lenS at ih ⊢
    rw [List.set_cons_succ, List.map_cons, List.map_cons, List.sum_cons, List.sum_cons]
    omega
theorem lenS_append (xs ys : List Str) : lenS (xs ++ ys) = lenS xs + lenS ys := by
  unfold lenS
  rw [List.map_append, List.sum_append]
theorem lenS_take : ∀ {xs : List Str} {n : Nat}, lenS (xs.take n) ≤ lenS xs
  | [], n => by rw [List.take_nil]; exact Nat.le_refl _
  | x :: xs, 0 => Nat.zero_le _
  | x :: xs, n + 1 => by
    have ih := lenS_take (xs := xs) (n := n)
    unfold lenS at ih ⊢
    rw [List.take_succ_cons, List.map_cons, List.map_cons, List.sum_cons, List.sum_cons]
    omega
theorem asc_wI (i : Int) : Asc (wI i) := fun c hc => by
  rcases wI_cases i with ⟨n, _, e⟩ | ⟨n, _, e⟩
  · rw [e] at hc
    have := TL.numL_digits n c hc
    omega
  · rw [e] at hc
    rcases List.mem_cons.mp hc with z | z
    · omega
    · have := TL.numL_digits (n + 1) c z
      omega
theorem asc_wP (p : Pt) : Asc (wP p) := fun c hc => by
  rw [wP_tl] at hc
  rcases List.mem_append.mp hc with z | z
  · exact asc_wI _ c z
  · rcases List.mem_cons.mp z with z | z
    · omega
    · exact asc_wI _ c z
theorem wI_short {i : Int} {k : Nat} (hk : 0 < k) (h : i.natAbs < 10 ^ k) : (wI i).length ≤ k + 1 := by
  rw [TL.len_tl]
  rcases wI_cases i with ⟨n, en, e⟩ | ⟨n, en, e⟩
  · rw [e]
    have q := TL.numL_len (n := n) (k := k) hk (by omega)
    omega
  · rw [e, List.length_cons]
    have q := TL.numL_len (n := n + 1) (k := k) hk (by omega)
    omega
theorem wP_short {p : Pt} {k : Nat} (hk : 0 < k) (h : p.1.natAbs < 10 ^ k ∧ p.2.natAbs < 10 ^ k) : (wP p).length ≤ 2 * k + 3 := by
  have h1 := wI_short hk h.1
  have h2 := wI_short hk h.2
  rw [TL.len_tl] at h1 h2
  rw [TL.len_tl, wP_tl, List.length_append, List.length_cons]
  omega
theorem lenS_wP : ∀ {ps : List Pt}, (∀ p ∈ ps, p.1.natAbs < 10 ^ 1 ∧ p.2.natAbs < 10 ^ 1) → lenS (ps.map wP) ≤ 5 * ps.length
  | [], _ => Nat.zero_le _
  | p :: ps, h => by
    have h1 := wP_short (by decide) (h p List.mem_cons_self)
    have h2 := lenS_wP fun q hq => h q (List.mem_cons_of_mem _ hq)
    unfold lenS at h2 ⊢
    rw [List.map_cons, List.map_cons, List.sum_cons, List.length_cons]
    omega
/-- texts of which a joined text may be read -/
structure Parts (xs : List Str) (b : Nat) : Prop where
  asc : ∀ x ∈ xs, Asc x
  len : lenS xs + xs.length ≤ b
theorem Parts.rd {xs : List Str} {b : Nat} (h : Parts xs b) (hb : b ≤ 300) : Rd (Txt.join sBlank xs) := ⟨asc_join h.asc, Nat.le_trans (join_len xs) (Nat.le_trans h.len hb)⟩
theorem Parts.set {xs : List Str} {b : Nat} (h : Parts xs b) {s : Str} (hs : Asc s) (hl : s.length ≤ 7) (j : Nat) : Parts (xs.set j s) (b + 7) := ⟨fun x hx => by
  rcases List.mem_or_eq_of_mem_set hx with z | rfl
  · exact h.asc x z
  · exact hs, by
  have := h.len
  have := lenS_set (xs := xs) (j := j) (s := s)
  rw [List.length_set]
  omega⟩
theorem Parts.take {xs : List Str} {b : Nat} (h : Parts xs b) (n : Nat) : Parts (xs.take n) b := ⟨fun x hx => h.asc x (List.mem_of_mem_take hx), by
  have := h.len
  have := lenS_take (xs := xs) (n := n)
  rw [List.length_take]
  omega⟩
theorem Parts.append {xs ys : List Str} {b c : Nat} (h : Parts xs b) (k : Parts ys c) : Parts (xs ++ ys) (b + c) := ⟨fun x hx => by
  rcases List.mem_append.mp hx with z | z
  · exact h.asc x z
  · exact k.asc x z, by
  have := h.len
  have := k.len
  rw [lenS_append, List.length_append]
  omega⟩
theorem Parts.mono {xs : List Str} {b c : Nat} (h : Parts xs b) (e : b ≤ c) : Parts xs c := ⟨h.asc, Nat.le_trans h.len e⟩
def ODD : List Str := ["", "1", "1,2,3", "01,2", "1,02", "-0,1", "1,-0", "+1,2", "--1,2", "1,", ",1", "1;2", "a,1", "1, 2", "-,1", "0,0", "-5,10", "1,2 3,4", "1,2 ", " 1,2", "1,2\n", "1.0,2", "0x1,2", "-1,-1"]
theorem odd_ok : ∀ s ∈ ODD, Asc s ∧ s.length ≤ 7 := by
  unfold Asc
  decide +kernel
theorem strs_set (xs : List Str) (j : Nat) (s : Str) : (xs.map Dt.str).set j (.str s) = (xs.set j s).map Dt.str := by rw [List.map_set]
/-! drawn tuples made pairs -/
def mkPair (t : List Int) : Pt := toPt ((t ++ [7, -7]).take 2)
theorem mkPair_l2 (t : List Int) : l2 (mkPair t) = (t ++ [7, -7]).take 2 := l2_toPt (by
  rw [List.length_take, List.length_append, List.length_cons, List.length_cons, List.length_nil]
  omega)
theorem mkPair_small {t : List Int} (h : ∀ n ∈ t, n.natAbs ≤ 9) : (mkPair t).1.natAbs < 10 ^ 1 ∧ (mkPair t).2.natAbs < 10 ^ 1 := by
  have key : ∀ n ∈ l2 (mkPair t), n.natAbs < 10 ^ 1 := by
    intro n hn
    rw [mkPair_l2] at hn
    rcases List.mem_append.mp (List.mem_of_mem_take hn) with z | z
    · have := h n z
      omega
    · rcases List.mem_cons.mp z with rfl | z
      · decide
      · rw [List.mem_singleton.mp z]
        decide
  exact ⟨key _ List.mem_cons_self, key _ (List.mem_cons_of_mem _ List.mem_cons_self)⟩
end Wk
/-! ## P1 -/
namespace Wk
open PySem L2 Evl
local macro_rules | `(tactic| walk_at "w1") => `(tactic| first
  | ((with_reducible refine' ex_var ?hv ?_); (case hv => rfl))
  | ((with_reducible refine' rx_ix_tup ?hv ?_); (case hv => rfl))
  | ((with_reducible refine' rx_ix_lst ?hv ?_); (case hv => rfl))
  | ((with_reducible refine' gx_tup ?hv ?_); (case hv => rfl))
  | ((with_reducible refine' rx_ix_cell ?hm ?hv ?_); (case hm => first | assumption | exact put_same); (case hv => rfl))
  | ((with_reducible refine' cx_len_cell ?hm ?_); (case hm => first | assumption | exact put_same))
  | ((with_reducible refine' rx_Ii ?hc ?_); (case hc => first | assumption | exact ⟨by decide, by decide +kernel⟩ | (show (0 : Int) < _; omega) | (show (0 : Int) < _; decide)))
  | ((with_reducible refine' rx_mul_int ?hc ?_); (case hc => first | assumption | exact cmul_l (by decide) (by decide) | exact cmul_r (by decide) (by decide)))
  | with_reducible refine ex_int ?_
  | with_reducible refine ex_str ?_
  | with_reducible refine ex_bl ?_
  | with_reducible refine ex_non ?_
  | with_reducible refine ex_raw ?_
  | with_reducible refine ex_op ?_
  | with_reducible refine ex_un ?_
  | with_reducible refine ex_cb ?_
  | with_reducible refine ex_tup ?_
  | with_reducible refine ex_sl ?_
  | with_reducible refine ox_none ?_
  | with_reducible refine ox_some ?_
  | with_reducible refine ax_nil ?_
  | with_reducible refine ax_cons ?_
  | with_reducible refine ex_if ?_
  | with_reducible refine ex_andV ?_
  | with_reducible refine ex_orV ?_
  | with_reducible refine ex_notV ?_
  | with_reducible refine ex_m0 ?_
  | with_reducible refine ex_m1 ?_
  | with_reducible refine tx_test ?_
  | with_reducible refine tx_B ?_
  | with_reducible refine tx_and ?_
  | with_reducible refine tx_or ?_
  | with_reducible refine tx_not ?_
  | with_reducible refine tx_yes ?_
  | with_reducible refine sx_seq ?_
  | with_reducible refine sx_set ?_
  | with_reducible refine sx_ret ?_
  | with_reducible refine sx_drop ?_
  | with_reducible refine sx_next ?_
  | with_reducible refine sx_if ?_
  | with_reducible refine sx_retN ?_
  | with_reducible refine sx_asg ?_
  | with_reducible refine sx_par ?_
  | with_reducible refine gx_name ?_
  | with_reducible refine gxs_cons ?_
  | with_reducible refine gxs_nil ?_
  | with_reducible refine rx_add_int ?_
  | with_reducible refine rx_I0i ?_
  | with_reducible refine rx_I0b ?_
  | with_reducible refine rx_eq_int ?_
  | with_reducible refine rx_ne_int ?_
  | with_reducible refine rx_eq_str ?_
  | with_reducible refine rx_ne_str ?_
  | with_reducible refine rx_eq_bl ?_
  | with_reducible refine rx_ne_bl ?_
  | with_reducible refine lx_tup ?_
  | with_reducible refine lx_lst ?_
  | with_reducible refine cx_len_tup ?_
  | with_reducible refine cx_len_lst ?_
  | with_reducible refine cx_len_frl ?_
  | with_reducible refine cx_max2 ?_
  | with_reducible refine ux_neg ?_
  | with_reducible refine cx_list_lst ?_
  | with_reducible refine cx_tuple_lst ?_
  | with_reducible refine cx_tuple_tup ?_
  | with_reducible refine mx_isdigit ?_
  | with_reducible refine mx_startswith ?_
  | with_reducible refine ix_any ?_
  | with_reducible refine And.intro (Nat.le_of_ble_eq_true rfl) ?_
  | refine Exists.intro _ (And.intro rfl ?_))
local macro_rules | `(tactic| walk_at "w") => `(tactic| repeat (walk_at "w1"))


section
variable {P : Program} {w : World} {K : PySem.W.Frag} {mg : Str → Option Value} {base : Heap} {C WE BP BT NC BJ : Addr}

abbrev s_minus : Stmt := top 12
theorem sc_minus : FnScope ["first", "second"] ["first", "second"] (defScope s_minus) := ⟨rfl, rfl, rfl, by decide +kernel, rfl, by decide +kernel, by decide +kernel⟩

theorem ok_minus {f : Addr} {fd : FuncData} (F : Fun K "minus" "minus" s_minus f fd) (T : Tx K mg C)  : FnOk P w K mg base CX0 1 f fd ["first", "second"] (spMinus K) := by
  refine F.ok sc_minus (spD_len (n := 2) (fun x ds M h => by rw [h.1] <;> rfl)) (fun cdv A outer s H vs Q E hr h => ⟨_, (pss_one (ps_ret (pe_tup (pa_cons (pe_op op_sub (pe_ix ix_seq (pv 0) pe_int (fun _ _ => rfl)) (pe_ix ix_seq (pv 1) pe_int (fun _ _ => rfl))) (pa_cons (pe_op op_sub (pe_ix ix_seq (pv 0) pe_int (fun _ _ => rfl)) (pe_ix ix_seq (pv 1) pe_int (fun _ _ => rfl))) pa_nil))))), enter h ?_⟩)
  dsimp only [cxOf, Cx.nox, Cx.wish]
  rintro ⟨a, b⟩ ds M ⟨rfl, _⟩
  walk_at "w"
  exact ret_pure rfl (Sub.refl M)

abbrev s__law_source : Stmt := top 19
theorem sc__law_source : FnScope ["script", "index", "cell"] ["script", "index"] (defScope s__law_source) := ⟨rfl, rfl, rfl, by decide +kernel, rfl, by decide +kernel, by decide +kernel⟩

theorem ok__law_source {f : Addr} {fd : FuncData} (F : Fun K "_law_source" "_law_source" s__law_source f fd) (T : Tx K mg C)  : FnOk P w K mg base CX0 1 f fd ["script", "index"] (spSource K) := by
  refine F.ok sc__law_source (spD_len (n := 2) (fun x ds M h => by rw [h.1] <;> rfl)) (fun cdv A outer s H vs Q E hr h => ⟨_, (pss_cons (ps_set (i := 2) sc__law_source.nd rfl (Or.inl rfl) pe_int) (pss_cons (ps_if (pt_cmpR op_lt (pv 1) (pe_callB call_lenA (by rfl) T.n_len (by decide +kernel) (pa_cons (pv 0) pa_nil)) (nomark _)) (pss_one (ps_set (i := 2) sc__law_source.nd rfl (Or.inl rfl) (pe_ix ix_seq (pv 0) (pv 1) (fun _ _ => rfl)))) pss_nil) (pss_one (ps_ret (pe_lst (pa_cons (pe_callB (call_max2 rfl) (by rfl) T.n_max (by decide +kernel) (pa_cons pe_int (pa_cons (pe_op op_sub (pv 2) (pe_op op_powW pe_int pe_int)) pa_nil))) (pa_cons (pe_op op_addA (pe_op op_mod (pv 2) (pe_op op_addA (pe_op op_powW pe_int pe_int) pe_int)) (pe_op op_mulA pe_int (pv 1))) (pa_cons pe_int pa_nil)))))))), enter h ?_⟩)
  dsimp only [cxOf, Cx.nox, Cx.wish]
  rintro ⟨ns, i⟩ ds M ⟨rfl, h0, h1⟩
  dsimp only at *
  refine sx_seq (sx_set (ex_int ?_))
  refine sx_seqc (fun ρ' M' => M' = M ∧ ∃ c : Int, ρ' = [some (.frl (ns.map Dt.int)), some (.int i), some (.int c)]) ?_ ?_
  · walk_at "w"
    refine ⟨fun h => ?_, fun h => ?_⟩
    · have hi := dT h
      rw [List.length_map] at hi
      have e : (ns.map Dt.int)[i.toNat]? = some (.int ns[i.toNat]!) := by
        rw [List.getElem?_map, List.getElem?_eq_getElem (show i.toNat < ns.length by omega), getElem!_pos ns i.toNat (by omega)] <;> rfl
      have e2 : i = (i.toNat : Int) := by omega
      walk_at "w"
      refine rx_ix_frl (d := .int ns[i.toNat]!) ?_ ?_
      · rw [e2]
        exact atI_at e
      · exact ⟨rfl, _, rfl⟩
    · walk_at "w"
      exact ⟨rfl, 0, rfl⟩
  · rintro ρ' M' ⟨rfl, c, rfl⟩
    refine sx_ret (ex_lstC ?_)
    walk_at "w"
    refine fun a ha => ⟨_, Sub.refl _, a, _, rfl, ha, rfl, _, _, _, rfl, ?_, ?_, ?_, Int.le_refl 0, Int.le_refl 0⟩
    · split <;> omega
    · have h := Int.emod_nonneg c (show (10 ^ Int.toNat 37 + 43 : Int) ≠ 0 by decide)
      omega
    · have h := Int.emod_lt_of_pos c (show (0 : Int) < 10 ^ Int.toNat 37 + 43 by decide)
      have h2 : (10 ^ Int.toNat 37 + 43 : Int) < 2 ^ 199 := by decide
      have h3 : (2 : Int) ^ 199 + 129970900 < 2 ^ 200 := by decide
      omega

abbrev s__law_draw : Stmt := top 20
theorem sc__law_draw : FnScope ["source", "bound", "digit", "mixed"] ["source", "bound"] (defScope s__law_draw) := ⟨rfl, rfl, rfl, by decide +kernel, rfl, by decide +kernel, by decide +kernel⟩

theorem ok__law_draw {f : Addr} {fd : FuncData} (F : Fun K "_law_draw" "_law_draw" s__law_draw f fd) (T : Tx K mg C)  : FnOk P w K mg base CX0 1 f fd ["source", "bound"] (spDraw K) := by
  refine F.ok sc__law_draw (spD_len (n := 2) (fun x ds M h => by rw [h.1] <;> rfl)) (fun cdv A outer s H vs Q E hr h => ⟨_, (pss_cons (ps_if (pt_cmpR op_gt (pe_ix ix_seq (pv 0) pe_int (fun _ _ => rfl)) pe_int (nomark _)) (pss_cons (ps_set (i := 2) sc__law_draw.nd rfl (Or.inl rfl) (pe_op op_mod (pe_ix ix_seq (pv 0) pe_int (fun _ _ => rfl)) (pv 1))) (pss_cons (ps_asg (pe_op op_fdivW (pe_ix ix_seq (pv 0) pe_int (fun _ _ => rfl)) (pv 1)) (pg_sub (pv 0) pe_int set_list)) (pss_one (ps_ret (pv 2))))) pss_nil) (pss_cons (ps_asg (pe_op op_addA (pe_ix ix_seq (pv 0) pe_int (fun _ _ => rfl)) pe_int) (pg_sub (pv 0) pe_int set_list)) (pss_cons (ps_set (i := 3) sc__law_draw.nd rfl (Or.inl rfl) (pe_op op_mod (pe_op op_powW (pe_op op_addA (pe_ix ix_seq (pv 0) pe_int (fun _ _ => rfl)) (pe_op op_mulA pe_int (pe_ix ix_seq (pv 0) pe_int (fun _ _ => rfl)))) pe_int) (pe_op op_addA (pe_op op_powW pe_int pe_int) pe_int))) (pss_cons (ps_set (i := 3) sc__law_draw.nd rfl (Or.inl rfl) (pe_op op_mod (pe_op op_powW (pe_op op_addA (pv 3) (pe_op op_mulA pe_int (pe_ix ix_seq (pv 0) pe_int (fun _ _ => rfl)))) pe_int) (pe_op op_addA (pe_op op_powW pe_int pe_int) pe_int))) (pss_one (ps_ret (pe_op op_mod (pe_op op_fdivW (pv 3) pe_int) (pv 1)))))))), enter h ?_⟩)
  dsimp only [cxOf, Cx.nox, Cx.wish]
  rintro ⟨a, b, n⟩ ds M ⟨rfl, ⟨c, hm, x, y, z, rfl, h0, h1, h2, h3, h4⟩, hb, hb2, hn⟩
  dsimp only at *
  walk_at "w"
  refine ⟨fun h => ?_, fun h => ?_⟩
  · have hx := dT h
    walk_at "w"
    refine rx_Ii (cdiv_of hb (abs_lt (by omega) hb2) (by decide) (by decide)) ?_
    refine gx_sub ?_
    walk_at "w"
    refine ⟨a, _, 0, 0, rfl, rfl, hm, rfl, ?_⟩
    walk_at "w"
    exact ⟨_, Sub.refl _, _, _, rfl, Int.emod_nonneg _ (by omega), Int.emod_lt_of_pos _ hb, rfl, _, _, _, rfl, Int.ediv_nonneg h0 (by omega), h1, h2, h3, by omega⟩
  · walk_at "w"
    refine gx_sub ?_
    walk_at "w"
    refine ⟨a, _, 2, 2, rfl, rfl, hm, rfl, ?_⟩
    refine sx_seq (sx_set (ex_cut (fun d M' => M' = put M a (.lst [.int x, .int y, .int (z + 1)]) ∧ ∃ m : Int, d = .int m ∧ 0 ≤ m ∧ m < 2 ^ 200) ?_ ?_))
    · walk_at "w"
      refine rx_Ii (cpow_of (n := 300) (by decide) (abs_lt ?_ ?_) (by decide) (by decide)) ?_
      · omega
      · omega
      · walk_at "w"
        refine ⟨rfl, _, rfl, Int.emod_nonneg _ (by decide), Int.lt_trans (Int.emod_lt_of_pos _ (by decide)) (by decide)⟩
    · rintro d M' ⟨rfl, m, rfl, m0, m1⟩
      refine sx_seq (sx_set (ex_cut (fun d M' => M' = put M a (.lst [.int x, .int y, .int (z + 1)]) ∧ ∃ m : Int, d = .int m) ?_ ?_))
      · walk_at "w"
        refine rx_Ii (cpow_of (n := 300) (by decide) (abs_lt ?_ ?_) (by decide) (by decide)) ?_
        · omega
        · omega
        · walk_at "w"
          exact ⟨rfl, _, rfl⟩
      · rintro d M' ⟨rfl, m', rfl⟩
        walk_at "w"
        exact ⟨_, Sub.refl _, _, _, rfl, Int.emod_nonneg _ (by omega), Int.emod_lt_of_pos _ hb, rfl, x, y, z + 1, rfl, h0, h1, h2, by omega, by omega⟩

end
end Wk
/-! ## P2 -/
namespace Wk
open PySem L2 Evl
local macro_rules | `(tactic| walk_at "w1") => `(tactic| first
  | ((with_reducible refine' ex_var ?hv ?_); (case hv => rfl))
  | ((with_reducible refine' rx_ix_tup ?hv ?_); (case hv => rfl))
  | ((with_reducible refine' rx_ix_lst ?hv ?_); (case hv => rfl))
  | ((with_reducible refine' gx_tup ?hv ?_); (case hv => rfl))
  | ((with_reducible refine' rx_ix_cell ?hm ?hv ?_); (case hm => first | assumption | exact put_same); (case hv => rfl))
  | ((with_reducible refine' cx_len_cell ?hm ?_); (case hm => first | assumption | exact put_same))
  | ((with_reducible refine' rx_Ii ?hc ?_); (case hc => first | assumption | exact ⟨by decide, by decide +kernel⟩ | (show (0 : Int) < _; omega) | (show (0 : Int) < _; decide)))
  | ((with_reducible refine' rx_mul_int ?hc ?_); (case hc => first | assumption | exact cmul_l (by decide) (by decide) | exact cmul_r (by decide) (by decide)))
  | with_reducible refine ex_int ?_
  | with_reducible refine ex_str ?_
  | with_reducible refine ex_bl ?_
  | with_reducible refine ex_non ?_
  | with_reducible refine ex_raw ?_
  | with_reducible refine ex_op ?_
  | with_reducible refine ex_un ?_
  | with_reducible refine ex_cb ?_
  | with_reducible refine ex_tup ?_
  | with_reducible refine ex_sl ?_
  | with_reducible refine ox_none ?_
  | with_reducible refine ox_some ?_
  | with_reducible refine ax_nil ?_
  | with_reducible refine ax_cons ?_
  | with_reducible refine ex_if ?_
  | with_reducible refine ex_andV ?_
  | with_reducible refine ex_orV ?_
  | with_reducible refine ex_notV ?_
  | with_reducible refine ex_m0 ?_
  | with_reducible refine ex_m1 ?_
  | with_reducible refine tx_test ?_
  | with_reducible refine tx_B ?_
  | with_reducible refine tx_and ?_
  | with_reducible refine tx_or ?_
  | with_reducible refine tx_not ?_
  | with_reducible refine tx_yes ?_
  | with_reducible refine sx_seq ?_
  | with_reducible refine sx_set ?_
  | with_reducible refine sx_ret ?_
  | with_reducible refine sx_drop ?_
  | with_reducible refine sx_next ?_
  | with_reducible refine sx_if ?_
  | with_reducible refine sx_retN ?_
  | with_reducible refine sx_asg ?_
  | with_reducible refine sx_par ?_
  | with_reducible refine gx_name ?_
  | with_reducible refine gxs_cons ?_
  | with_reducible refine gxs_nil ?_
  | with_reducible refine rx_add_int ?_
  | with_reducible refine rx_I0i ?_
  | with_reducible refine rx_I0b ?_
  | with_reducible refine rx_eq_int ?_
  | with_reducible refine rx_ne_int ?_
  | with_reducible refine rx_eq_str ?_
  | with_reducible refine rx_ne_str ?_
  | with_reducible refine rx_eq_bl ?_
  | with_reducible refine rx_ne_bl ?_
  | with_reducible refine lx_tup ?_
  | with_reducible refine lx_lst ?_
  | with_reducible refine cx_len_tup ?_
  | with_reducible refine cx_len_lst ?_
  | with_reducible refine cx_len_frl ?_
  | with_reducible refine cx_max2 ?_
  | with_reducible refine ux_neg ?_
  | with_reducible refine cx_list_lst ?_
  | with_reducible refine cx_tuple_lst ?_
  | with_reducible refine cx_tuple_tup ?_
  | with_reducible refine mx_isdigit ?_
  | with_reducible refine mx_startswith ?_
  | with_reducible refine ix_any ?_
  | with_reducible refine And.intro (Nat.le_of_ble_eq_true rfl) ?_
  | refine Exists.intro _ (And.intro rfl ?_))
local macro_rules | `(tactic| walk_at "w") => `(tactic| repeat (walk_at "w1"))


section
variable {P : Program} {w : World} {K : PySem.W.Frag} {mg : Str → Option Value} {base : Heap} {C WE BP BT NC BJ : Addr}

abbrev s_is_count : Stmt := top 8
theorem sc_is_count : FnScope ["word"] ["word"] (defScope s_is_count) := ⟨rfl, rfl, rfl, by decide +kernel, rfl, by decide +kernel, by decide +kernel⟩

theorem ok_is_count {f : Addr} {fd : FuncData} (F : Fun K "is_count" "is_count" s_is_count f fd) (T : Tx K mg C)  : FnOk P w K mg base CX0 1 f fd ["word"] (spCount K) := by
  refine F.ok sc_is_count (spD_len (n := 1) (fun x ds M h => by rw [h.1] <;> rfl)) (fun cdv A outer s H vs Q E hr h => ⟨_, (pss_one (ps_ret (pe_or (pe_cmpR (op_eqA hr.units) (pv 0) pe_str (nomark _)) (pe_one (pe_and (pe_m0 PySem.F.slot_str_isdigit PySem.F.type_str_isdigit mt_isdigit (pv 0)) (pe_one (pe_cmpR (op_neA hr.units) (pe_ix ix_seq (pv 0) pe_int (fun _ _ => rfl)) pe_str (nomark _)))))))), enter h ?_⟩)
  dsimp only [cxOf, Cx.nox, Cx.wish]
  rintro x ds M ⟨rfl, hx⟩
  have hl : x.length ≤ sizeLine := Nat.le_trans hx (by decide)
  walk_at "w"
  refine ⟨fun h => ?_, fun h => ?_⟩
  · exact ret_pure (by unfold countF; rw [h, Bool.true_or]) (Sub.refl M)
  · walk_at "w"
    refine ⟨⟨x, rfl⟩, ?_⟩
    walk_at "w"
    refine ⟨fun hd => ?_, fun hd => ?_⟩
    · have hn : TL.tl x ≠ [] := fun e => by
        unfold Txt.isdigit at hd
        rw [Bool.and_eq_true] at hd
        have q := of_decide_eq_true hd.1
        rw [TL.len_tl, e] at q
        exact absurd q (by decide)
      obtain ⟨c, r, e⟩ := List.exists_cons_of_ne_nil hn
      walk_at "w"
      refine rx_ix_str (c := c) hl (atI_at (j := 0) (by rw [show x.cps.toList = c :: r from e] <;> rfl)) ?_
      walk_at "w"
      refine ret_pure ?_ (Sub.refl M)
      unfold countF headS
      rw [h, hd, Bool.false_or, Bool.true_and, e] <;> rfl
    · exact ret_pure (by unfold countF; rw [h, hd, Bool.false_and, Bool.or_self]) (Sub.refl M)

abbrev s_is_number : Stmt := top 9
theorem sc_is_number : FnScope ["word"] ["word"] (defScope s_is_number) := ⟨rfl, rfl, rfl, by decide +kernel, rfl, by decide +kernel, by decide +kernel⟩

theorem ok_is_number {f : Addr} {fd : FuncData} (F : Fun K "is_number" "is_number" s_is_number f fd) (T : Tx K mg C) (c_is_count : Cal P w K mg base 1 "is_count" (spCount K)) : FnOk P w K mg base CX0 2 f fd ["word"] (spNumber K) := by
  refine F.ok sc_is_number (spD_len (n := 1) (fun x ds M h => by rw [h.1] <;> rfl)) (fun cdv A outer s H vs Q E hr h => ⟨_, (pss_one (ps_ret (pe_or (pe_c c_is_count hr (by decide) rfl (pa_cons (pv 0) pa_nil)) (pe_one (pe_and (pe_m1 PySem.F.slot_str_startswith PySem.F.type_str_startswith mt_startswith (pv 0) pe_str) (pe_and (pe_cmpR (op_neA hr.units) (pv 0) pe_str (nomark _)) (pe_one (pe_c c_is_count hr (by decide) rfl (pa_cons (pe_slice sl_any (pv 0) (po_some pe_int) po_none) pa_nil))))))))), enter h ?_⟩)
  dsimp only [cxOf, Cx.nox, Cx.wish]
  rintro x ds M ⟨rfl, hx⟩
  have hl : x.length ≤ sizeLine := Nat.le_trans hx (by decide)
  walk_at "w"
  refine ex_callP ?_
  walk_at "w"
  refine ⟨hx, _, rfl, fun h => ?_, fun h => ?_⟩
  · exact ret_pure (by unfold numF; rw [h, Bool.true_or]) (Sub.refl M)
  · walk_at "w"
    refine ⟨⟨x, rfl⟩, ?_⟩
    walk_at "w"
    refine ⟨fun hd => ?_, fun hd => ?_⟩
    · walk_at "w"
      refine ⟨fun he => ?_, fun he => ?_⟩
      · refine ex_callP ?_
        walk_at "w"
        refine lx_str hl ?_
        walk_at "w"
        refine ⟨Nat.le_trans (cutS_length x _ _) hx, ?_⟩
        refine ret_pure ?_ (Sub.refl M)
        unfold numF
        rw [h, hd, he, Bool.false_or, Bool.true_and, Bool.true_and]
      · exact ret_pure (by unfold numF; rw [h, hd, he, Bool.false_and, Bool.true_and, Bool.or_self]) (Sub.refl M)
    · exact ret_pure (by unfold numF; rw [h, hd, Bool.false_and, Bool.or_self]) (Sub.refl M)

end
end Wk
/-! ## P50 -/
namespace Wk
open PySem L2 Evl
local macro_rules | `(tactic| walk_at "w1") => `(tactic| first
  | ((with_reducible refine' ex_var ?hv ?_); (case hv => rfl))
  | ((with_reducible refine' rx_ix_tup ?hv ?_); (case hv => rfl))
  | ((with_reducible refine' rx_ix_lst ?hv ?_); (case hv => rfl))
  | ((with_reducible refine' gx_tup ?hv ?_); (case hv => rfl))
  | ((with_reducible refine' rx_ix_cell ?hm ?hv ?_); (case hm => first | assumption | exact put_same); (case hv => rfl))
  | ((with_reducible refine' cx_len_cell ?hm ?_); (case hm => first | assumption | exact put_same))
  | ((with_reducible refine' rx_Ii ?hc ?_); (case hc => first | assumption | exact ⟨by decide, by decide +kernel⟩ | (show (0 : Int) < _; omega) | (show (0 : Int) < _; decide)))
  | ((with_reducible refine' rx_mul_int ?hc ?_); (case hc => first | assumption | exact cmul_l (by decide) (by decide) | exact cmul_r (by decide) (by decide)))
  | with_reducible refine ex_int ?_
  | with_reducible refine ex_str ?_
  | with_reducible refine ex_bl ?_
  | with_reducible refine ex_non ?_
  | with_reducible refine ex_raw ?_
  | with_reducible refine ex_op ?_
  | with_reducible refine ex_un ?_
  | with_reducible refine ex_cb ?_
  | with_reducible refine ex_tup ?_
  | with_reducible refine ex_sl ?_
  | with_reducible refine ox_none ?_
  | with_reducible refine ox_some ?_
  | with_reducible refine ax_nil ?_
  | with_reducible refine ax_cons ?_
  | with_reducible refine ex_if ?_
  | with_reducible refine ex_andV ?_
  | with_reducible refine ex_orV ?_
  | with_reducible refine ex_notV ?_
  | with_reducible refine ex_m0 ?_
  | with_reducible refine ex_m1 ?_
  | with_reducible refine tx_test ?_
  | with_reducible refine tx_B ?_
  | with_reducible refine tx_and ?_
  | with_reducible refine tx_or ?_
  | with_reducible refine tx_not ?_
  | with_reducible refine tx_yes ?_
  | with_reducible refine sx_seq ?_
  | with_reducible refine sx_set ?_
  | with_reducible refine sx_ret ?_
  | with_reducible refine sx_drop ?_
  | with_reducible refine sx_next ?_
  | with_reducible refine sx_if ?_
  | with_reducible refine sx_retN ?_
  | with_reducible refine sx_asg ?_
  | with_reducible refine sx_par ?_
  | with_reducible refine gx_name ?_
  | with_reducible refine gxs_cons ?_
  | with_reducible refine gxs_nil ?_
  | with_reducible refine rx_add_int ?_
  | with_reducible refine rx_I0i ?_
  | with_reducible refine rx_I0b ?_
  | with_reducible refine rx_eq_int ?_
  | with_reducible refine rx_ne_int ?_
  | with_reducible refine rx_eq_str ?_
  | with_reducible refine rx_ne_str ?_
  | with_reducible refine rx_eq_bl ?_
  | with_reducible refine rx_ne_bl ?_
  | with_reducible refine lx_tup ?_
  | with_reducible refine lx_lst ?_
  | with_reducible refine cx_len_tup ?_
  | with_reducible refine cx_len_lst ?_
  | with_reducible refine cx_len_frl ?_
  | with_reducible refine cx_max2 ?_
  | with_reducible refine ux_neg ?_
  | with_reducible refine cx_list_lst ?_
  | with_reducible refine cx_tuple_lst ?_
  | with_reducible refine cx_tuple_tup ?_
  | with_reducible refine mx_isdigit ?_
  | with_reducible refine mx_startswith ?_
  | with_reducible refine ix_any ?_
  | with_reducible refine And.intro (Nat.le_of_ble_eq_true rfl) ?_
  | refine Exists.intro _ (And.intro rfl ?_))
local macro_rules | `(tactic| walk_at "w") => `(tactic| repeat (walk_at "w1"))


section
variable {P : Program} {w : World} {K : PySem.W.Frag} {mg : Str → Option Value} {base : Heap} {C WE BP BT NC BJ : Addr}

abbrev s_read_points : Stmt := top 10
theorem sc_read_points : FnScope ["text", "points", "index", "part", "words"] ["text"] (defScope s_read_points) := ⟨rfl, rfl, rfl, by decide +kernel, rfl, by decide +kernel, by decide +kernel⟩

theorem ok_read_points {f : Addr} {fd : FuncData} (F : Fun K "read_points" "read_points" s_read_points f fd) (T : Tx K mg C) (c_is_number : Cal P w K mg base 2 "is_number" (spNumber K)) (c_BadText : Sup1 P K mg "BadText" "index" BT) : FnOk P w K mg base (L2.CX P w) 3 f fd ["text"] (spReadX K BT) := by
  refine F.okX sc_read_points (spX_len (n := 1) (fun x ds M h => by rw [h.1] <;> rfl)) (fun cdv A outer s H vs Q E hr h => ⟨_, (pss_cons (ps_set (i := 1) sc_read_points.nd rfl (Or.inl rfl) (pe_lst pa_nil)) (pss_cons (ps_for (passes_of rfl) rfl (pi_enumA rfl T.n_enumerate (pa_cons (pe_split (pv 0) pe_str) pa_nil)) (pg_tup (by rfl) (pgs_cons (pg_name (i := 2) sc_read_points.nd rfl (Or.inl rfl)) (pgs_cons (pg_name (i := 3) sc_read_points.nd rfl (Or.inl rfl)) pgs_nil))) (pss_cons (ps_set (i := 4) sc_read_points.nd rfl (Or.inl rfl) (pe_split (pv 3) pe_str)) (pss_cons (ps_if (PW.pt (pw_or (pt_cmpR (op_neA hr.units) (pe_callB call_lenA (by rfl) T.n_len (by decide +kernel) (pa_cons (pv 4) pa_nil)) pe_int (nomark _)) (pw_or (pt_not (pt_val (pe_c c_is_number hr (by decide) rfl (pa_cons (pe_ix ix_seq (pv 4) pe_int (fun _ _ => rfl)) pa_nil)))) (pw_or1 (pt_not (pt_val (pe_c c_is_number hr (by decide) rfl (pa_cons (pe_ix ix_seq (pv 4) pe_int (fun _ _ => rfl)) pa_nil)))))))) (pss_one (ps_raiseS c_BadText rfl (takes_of rfl rfl rfl rfl) hr (by decide) rfl (pa_cons (pv 2) pa_nil))) pss_nil) (pss_one (ps_expr (pe_bm PySem.F.plainAttrs_list PySem.F.slot_list_append PySem.F.type_list_append mt_append (pv 1) (pa_cons (pe_tup (pa_cons (pe_callTy call_int_str (by rfl) T.n_int (by decide +kernel) (pa_cons (pe_ix ix_seq (pv 4) pe_int (fun _ _ => rfl)) pa_nil)) (pa_cons (pe_callTy call_int_str (by rfl) T.n_int (by decide +kernel) (pa_cons (pe_ix ix_seq (pv 4) pe_int (fun _ _ => rfl)) pa_nil)) pa_nil))) pa_nil))))))) (pss_one (ps_ret (pv 1))))), enterX h ?_⟩)
  dsimp only [cxOf, Cx.nox, Cx.wish]
  rintro w0 ds M ⟨rfl, hrd⟩
  obtain ⟨hb1, hb2, hb3⟩ := rd_blank hrd
  refine sy_seqx (sx_set (ex_lstC ?_))
  walk_at "w"
  refine fun a ha => ?_
  refine sy_seqc (fun ρ' M' => ∃ ps : List Pt, rdV w0 = ps.map some ∧ (∃ x y z, ρ' = [some (.str w0), some (.raw (.ref a)), x, y, z]) ∧ M' = put M a (.lst (ps.map P2))) (sy_for (ix_enum ?_)) ?_
  · walk_at "w"
    refine ⟨⟨_, rfl⟩, ?_⟩
    walk_at "w"
    refine mx_split (by decide) (Nat.le_trans (m := 302) (by have := hrd.2; omega) (by decide)) ?_
    walk_at "w"
    refine ⟨_, _, _, rfl, .inl ⟨.inl rfl, rfl⟩, fun i ρ' M' => ∃ ps : List Pt, (rdV w0).take i = ps.map some ∧ (∃ x y z, ρ' = [some (.str w0), some (.raw (.ref a)), x, y, z]) ∧ M' = put M a (.lst (ps.map P2)), ⟨[], rfl, ⟨_, _, _, rfl⟩, rfl⟩, fun _ _ _ _ _ => trivial, ?_, ?_⟩
    · rintro i d ρ' M' hi ⟨ps, hps, ⟨x, y, z, rfl⟩, rfl⟩
      obtain ⟨e, hx, rfl⟩ := enumD_inv hi
      rw [List.getElem?_map] at hx
      obtain ⟨p, hp, rfl⟩ := Option.map_eq_some_iff.mp hx
      have hlt : i < (Txt.split w0 sBlank).length := (List.getElem?_eq_some_iff.mp hp).1
      have hpr := hb1 p (List.mem_of_getElem? hp)
      have hg := rdV_get hp
      have hrl : (rdV w0).length = (Txt.split w0 sBlank).length := by
        unfold rdV
        rw [List.length_map]
      obtain ⟨hc1, hc2, hc3⟩ := rd_comma hpr
      have bad : ptV p = none → badWs (rdV w0) = some i := fun e => badWs_at (fun j o hj ho hz => by
        have q : ((rdV w0).take i)[j]? = some o := by
          rw [List.getElem?_take, if_pos hj]
          exact ho
        rw [hps, List.getElem?_map] at q
        obtain ⟨r, _, rfl⟩ := Option.map_eq_some_iff.mp q
        cases hz) (by rw [hg, e])
      walk_at "w"
      refine sy_seqx (sx_set (ex_m1 ?_))
      walk_at "w"
      refine ⟨⟨_, rfl⟩, ?_⟩
      walk_at "w"
      refine mx_split (by decide) (Nat.le_trans (m := 302) (by have := hpr.2; omega) (by decide)) ?_
      refine sy_seq (sy_if ?_)
      walk_at "w"
      rw [List.length_map]
      have thrown : ∀ {F : Es} {ρ : Rho}, ρ[2]? = some (some (.int (i : Nat))) → ptV p = none → SY K E (subX fun C' gs M'_1 => C' = BT ∧ M'_1 = M ∧ ∃ i : Nat, badWs (rdV w0) = some i ∧ gs = [(sIndex, Dt.int i)]) (tRaise K BT "index" E (tCons (tVar 2) tNil)) ρ (put M a (.lst (ps.map P2))) F := fun h2 e => by
        refine sy_raise (ax_cons (ex_var h2 (ax_nil ?_)))
        exact ⟨_, rfl, .int _ (by omega), M, Sub.put (Sub.refl M) ha, rfl, rfl, i, bad e, rfl⟩
      refine ⟨fun h => ⟨fun _ => ?_, fun h => by cases h⟩, fun h => ?_⟩
      · refine thrown rfl (ptV_len fun z => ?_)
        rw [z] at h
        exact absurd h (by decide)
      · have h2 : (Txt.split p sComma).length = 2 := by
          have z2 := dT (show decide (((Txt.split p sComma).length : Int) = 2) = true by simpa using h)
          omega
        obtain ⟨u, v, huv⟩ : ∃ u v, Txt.split p sComma = [u, v] := by
          match Txt.split p sComma, h2 with
          | [u, v], _ => exact ⟨u, v, rfl⟩
        rw [huv] at hc1 ⊢
        have hu := hc1 u List.mem_cons_self
        have hv := hc1 v (List.mem_cons_of_mem _ List.mem_cons_self)
        have hpt := ptV_two huv
        walk_at "w"
        refine ex_callP ?_
        walk_at "w"
        refine ⟨Nat.le_trans hu.2 (by decide), _, rfl, ?_⟩
        have nv : ∀ {s : Str}, (!numF s) = true → numV s = none := fun {s} h => by
          unfold numV
          rw [if_neg (by simpa using h)]
        refine ⟨fun h => ⟨fun _ => thrown rfl (by rw [hpt, nv h]), fun h => by cases h⟩, fun h => ?_⟩
        have h1 : numF u = true := by simpa using h
        walk_at "w"
        refine ex_callP ?_
        walk_at "w"
        refine ⟨Nat.le_trans hv.2 (by decide), _, rfl, ?_⟩
        refine ⟨fun h => thrown rfl (by rw [hpt, nv h]; cases numV u <;> rfl), fun h => ?_⟩
        have h2 : numF v = true := by simpa using h
        obtain ⟨x1, e1, _⟩ := numV_some hu.1 (by have := hu.2; omega) h1
        obtain ⟨x2, e2, _⟩ := numV_some hv.1 (by have := hv.2; omega) h2
        have n1 : numV u = some x1 := by
          unfold numV
          rw [if_pos h1, e1]
        have n2 : numV v = some x2 := by
          unfold numV
          rw [if_pos h2, e2]
        rw [n1, n2] at hpt
        refine sy_of (sx_next ?_)
        refine sy_of (sx_drop ?_)
        refine ex_append (a := a) ?_
        walk_at "w"
        refine ⟨rfl, _, put_same, ?_⟩
        walk_at "w"
        refine cx_int e1 (Nat.le_trans hu.2 (by decide)) ?_
        walk_at "w"
        refine cx_int e2 (Nat.le_trans hv.2 (by decide)) ?_
        walk_at "w"
        refine ⟨P2 (x1, x2), _, rfl, put_same, ?_, ?_⟩
        · have q := congrArg List.length hps
          rw [List.length_take, List.length_map] at q
          rw [List.length_map]
          exact Nat.lt_of_le_of_lt (m := 301) (by omega) (by decide)
        · refine ⟨ps ++ [(x1, x2)], ?_, ⟨_, _, _, rfl⟩, ?_⟩
          · have hr2 : i < (rdV w0).length := by omega
            rw [List.take_succ_eq_append_getElem hr2, hps, List.map_append]
            have e := (List.getElem?_eq_some_iff.mp hg).2
            rw [e, hpt] <;> rfl
          · rw [put_put, List.map_append] <;> rfl
    · rintro ρ' M' ⟨ps, hps, hρ, rfl⟩
      refine ⟨ps, ?_, hρ, rfl⟩
      rw [← hps, enumD_len, List.length_map, List.take_of_length_le]
      unfold rdV
      rw [List.length_map]
      exact Nat.le_refl _
  · rintro ρ' M' ⟨ps, hps, ⟨x, y, z, rfl⟩, rfl⟩
    refine sy_of (sx_ret (ex_frz ?_))
    walk_at "w"
    refine ⟨a, _, rfl, put_same, M, del_put_sub (Sub.refl M) ha, ps, hps, rfl, rfl⟩

abbrev s_check_pairs : Stmt := top 15
theorem sc_check_pairs : FnScope ["pairs", "index", "pair"] ["pairs"] (defScope s_check_pairs) := ⟨rfl, rfl, rfl, by decide +kernel, rfl, by decide +kernel, by decide +kernel⟩

theorem ok_check_pairsX {f : Addr} {fd : FuncData} (F : Fun K "check_pairs" "check_pairs" s_check_pairs f fd) (T : Tx K mg C) (c_BadPolygon : Sup1 P K mg "BadPolygon" "index" BP) : FnOk P w K mg base (L2.CX P w) 3 f fd ["pairs"] (spPairsX K BP) := by
  refine F.okX sc_check_pairs (spX_len (n := 1) (fun x ds M h => by rw [h.1] <;> rfl)) (fun cdv A outer s H vs Q E hr h => ⟨_, (pss_cons (ps_for (passes_of rfl) rfl (pi_enumA rfl T.n_enumerate (pa_cons (pv 0) pa_nil)) (pg_tup (by rfl) (pgs_cons (pg_name (i := 1) sc_check_pairs.nd rfl (Or.inl rfl)) (pgs_cons (pg_name (i := 2) sc_check_pairs.nd rfl (Or.inl rfl)) pgs_nil))) (pss_one (ps_if (PW.pt (pw_or (pt_cmpR (op_neA hr.units) (pe_callB call_lenA (by rfl) T.n_len (by decide +kernel) (pa_cons (pv 2) pa_nil)) pe_int (nomark _)) (pw_or1 (pt_cmpR (op_eqA hr.units) (pv 1) (ClX.pe_cval (pe_glob (v := .ref C) rfl T.m_Polygon rfl)) (nomark _))))) (pss_one (ps_raiseS c_BadPolygon rfl (takes_of rfl rfl rfl rfl) hr (by decide) rfl (pa_cons (pv 1) pa_nil))) pss_nil))) (pss_one (ps_if (pt_cmpR op_lt (pe_callB call_lenA (by rfl) T.n_len (by decide +kernel) (pa_cons (pv 0) pa_nil)) (pe_glob (v := .int 3) rfl T.m_LEAST.choose_spec ⟨_, rfl⟩) (nomark _)) (pss_one (ps_raiseS c_BadPolygon rfl (takes_of rfl rfl rfl rfl) hr (by decide) rfl (pa_cons (pe_callB call_lenA (by rfl) T.n_len (by decide +kernel) (pa_cons (pv 0) pa_nil)) pa_nil))) pss_nil))), enterX h ?_⟩)
  dsimp only [cxOf, Cx.nox, Cx.wish]
  rintro ts ds M ⟨rfl, h100⟩
  obtain ⟨mc, u, cr, cv⟩ := T.most
  refine sy_seqc (fun ρ' M' => M' = M ∧ (∀ j u, ts[j]? = some u → u.length = 2 ∧ j ≠ 8) ∧ ∃ a b, ρ' = [some (Tts ts), a, b]) (sy_for (ix_enum ?_)) ?_
  · walk_at "w"
    refine ⟨_, _, _, rfl, .inl ⟨.inr (.inr rfl), rfl⟩, fun i ρ' M' => M' = M ∧ (∀ j u, j < i → ts[j]? = some u → u.length = 2 ∧ j ≠ 8) ∧ ∃ a b, ρ' = [some (Tts ts), a, b], ⟨rfl, fun j u h => absurd h (Nat.not_lt_zero _), _, _, rfl⟩, fun _ _ _ _ _ => trivial, ?_, ?_⟩
    · rintro i d ρ' M' hi ⟨rfl, hok, a, b, rfl⟩
      obtain ⟨x, hx, rfl⟩ := enumD_inv hi
      rw [List.getElem?_map] at hx
      obtain ⟨t, ht, rfl⟩ := Option.map_eq_some_iff.mp hx
      have hlt := (List.getElem?_eq_some_iff.mp ht).1
      walk_at "w"
      refine sy_if ?_
      walk_at "w"
      have hok2 : ∀ j u, j < i → ts[j]? = some u → u.length = 2 ∧ j ≠ 8 := hok
      refine ⟨fun h => ⟨fun _ => ?_, fun h => by cases h⟩, fun h => ?_⟩
      · have hb : t.length ≠ 2 := fun z => by
          rw [List.length_map, z] at h
          exact absurd h (by decide)
        refine sy_raise ?_
        walk_at "w"
        exact ⟨.int _ (by omega), M', Sub.refl _, rfl, rfl, i, badP_at hok ht (.inl hb), rfl⟩
      · have h2 : t.length = 2 := by
          rw [List.length_map] at h
          have z : decide ((t.length : Int) = 2) = true := by simpa using h
          have z2 := dT z
          omega
        refine tx_test (ex_op ?_)
        walk_at "w"
        refine ex_cval cr cv (fun _ => .int 8) ?_
        walk_at "w"
        refine ⟨rfl, ?_⟩
        walk_at "w"
        refine ⟨fun h => ?_, fun h => ?_⟩
        · refine sy_raise ?_
          walk_at "w"
          have h8 := dT h
          exact ⟨.int _ (by omega), M', Sub.refl _, rfl, rfl, i, badP_at hok ht (.inr (by omega)), rfl⟩
        · have h8 := dF h
          refine sy_of (sx_next ⟨rfl, fun j u hj hu => ?_, _, _, rfl⟩)
          by_cases hc : j = i
          · subst hc
            rw [ht] at hu
            cases hu
            exact ⟨h2, by omega⟩
          · exact hok j u (by omega) hu
    · rintro ρ' M' ⟨rfl, hok, a, b, rfl⟩
      refine ⟨rfl, fun j u hu => hok j u ?_ hu, _, _, rfl⟩
      rw [enumD_len, List.length_map]
      exact (List.getElem?_eq_some_iff.mp hu).1
  · rintro ρ' M' ⟨rfl, hok, a, b, rfl⟩
    refine sy_if ?_
    walk_at "w"
    refine ⟨fun h => ?_, fun h => ?_⟩
    · have h3 := dT h
      rw [List.length_map] at h3
      refine sy_raise ?_
      walk_at "w"
      rw [List.length_map]
      exact ⟨.int _ (by omega), M', Sub.refl _, rfl, rfl, ts.length, badP_few hok (by omega), rfl⟩
    · have h3 := dF h
      rw [List.length_map] at h3
      exact sy_of (sx_next ⟨M', Sub.refl _, badP_good hok (by omega), rfl, rfl⟩)

abbrev s_Polygon_init : Stmt := inClass (top 17) 1
theorem sc_Polygon_init : FnScope ["self", "points"] ["self", "points"] (defScope s_Polygon_init) := ⟨rfl, rfl, rfl, by decide +kernel, rfl, by decide +kernel, by decide +kernel⟩

theorem b_Polygon_init : BindS "__init__" "Polygon.__init__" s_Polygon_init ["self"] "points" := fun kV dc pm an cd ct us rest hl => match us, rest, hl with
  | [a], [], _ => rfl
  | [a], r :: rs, _ => rfl
theorem ok_Polygon_init {f : Addr} {fd : FuncData} (F : Fun K "__init__" "Polygon.__init__" s_Polygon_init f fd) (T : Tx K mg C) (c_check_pairsX : CalX P w K mg base 3 "check_pairs" (spPairsX K BP)) : FnR P w K mg base (L2.CX P w) 4 f (spInitX K C BP) := by
  refine (fun_starX F sc_Polygon_init b_Polygon_init (sp := spInitXB K C BP) (fun cdv A outer s H vs Q E hr h => ⟨_, (pss_cons (ps_expr (pe_cX c_check_pairsX (pX (takes_of rfl rfl rfl rfl)) hr (by decide) rfl (pa_cons (pv 1) pa_nil))) (pss_one (ps_fld (pv 0) (pv 1) rfl))), enterX h ?_⟩)).imp fun vs H Q E h => starX (n := 1) ?_ h
  · dsimp only [cxOf, Cx.nox, Cx.wish]
    rintro ⟨a, ts⟩ ds M ⟨rfl, hm, h100⟩
    dsimp only at hm h100 ⊢
    refine sy_seq (sy_drop (ey_call ?_))
    walk_at "w"
    refine ⟨ts, ⟨rfl, h100⟩, ?_, ?_⟩
    rotate_left
    · rintro C' gs M2 ⟨rfl, rfl, i, hb, rfl⟩
      exact ⟨_, Sub.refl _, rfl, rfl, i, hb, rfl⟩
    rintro d M2 ⟨hg, rfl, rfl⟩
    refine sy_of (sx_fld ?_)
    walk_at "w"
    refine ⟨a, C, [], rfl, hm, T.cl, T.nP, by decide, ?_⟩
    exact ⟨_, Sub.refl _, hg, rfl, rfl⟩
  · rintro ⟨a, ts⟩ ds M ⟨rfl, hm, h100⟩
    exact ⟨[.raw (.ref a)], ts.map T1, rfl, rfl, by rw [List.length_map]; exact Nat.le_trans h100 (by decide), rfl, hm, h100⟩

end
end Wk
/-! ## P51 -/
namespace Wk
open PySem L2 Evl
local macro_rules | `(tactic| walk_at "w1") => `(tactic| first
  | ((with_reducible refine' ex_var ?hv ?_); (case hv => rfl))
  | ((with_reducible refine' rx_ix_tup ?hv ?_); (case hv => rfl))
  | ((with_reducible refine' rx_ix_lst ?hv ?_); (case hv => rfl))
  | ((with_reducible refine' gx_tup ?hv ?_); (case hv => rfl))
  | ((with_reducible refine' rx_ix_cell ?hm ?hv ?_); (case hm => first | assumption | exact put_same); (case hv => rfl))
  | ((with_reducible refine' cx_len_cell ?hm ?_); (case hm => first | assumption | exact put_same))
  | ((with_reducible refine' rx_Ii ?hc ?_); (case hc => first | assumption | exact ⟨by decide, by decide +kernel⟩ | (show (0 : Int) < _; omega) | (show (0 : Int) < _; decide)))
  | ((with_reducible refine' rx_mul_int ?hc ?_); (case hc => first | assumption | exact cmul_l (by decide) (by decide) | exact cmul_r (by decide) (by decide)))
  | with_reducible refine ex_int ?_
  | with_reducible refine ex_str ?_
  | with_reducible refine ex_bl ?_
  | with_reducible refine ex_non ?_
  | with_reducible refine ex_raw ?_
  | with_reducible refine ex_op ?_
  | with_reducible refine ex_un ?_
  | with_reducible refine ex_cb ?_
  | with_reducible refine ex_tup ?_
  | with_reducible refine ex_sl ?_
  | with_reducible refine ox_none ?_
  | with_reducible refine ox_some ?_
  | with_reducible refine ax_nil ?_
  | with_reducible refine ax_cons ?_
  | with_reducible refine ex_if ?_
  | with_reducible refine ex_andV ?_
  | with_reducible refine ex_orV ?_
  | with_reducible refine ex_notV ?_
  | with_reducible refine ex_m0 ?_
  | with_reducible refine ex_m1 ?_
  | with_reducible refine tx_test ?_
  | with_reducible refine tx_B ?_
  | with_reducible refine tx_and ?_
  | with_reducible refine tx_or ?_
  | with_reducible refine tx_not ?_
  | with_reducible refine tx_yes ?_
  | with_reducible refine sx_seq ?_
  | with_reducible refine sx_set ?_
  | with_reducible refine sx_ret ?_
  | with_reducible refine sx_drop ?_
  | with_reducible refine sx_next ?_
  | with_reducible refine sx_if ?_
  | with_reducible refine sx_retN ?_
  | with_reducible refine sx_asg ?_
  | with_reducible refine sx_par ?_
  | with_reducible refine gx_name ?_
  | with_reducible refine gxs_cons ?_
  | with_reducible refine gxs_nil ?_
  | with_reducible refine rx_add_int ?_
  | with_reducible refine rx_I0i ?_
  | with_reducible refine rx_I0b ?_
  | with_reducible refine rx_eq_int ?_
  | with_reducible refine rx_ne_int ?_
  | with_reducible refine rx_eq_str ?_
  | with_reducible refine rx_ne_str ?_
  | with_reducible refine rx_eq_bl ?_
  | with_reducible refine rx_ne_bl ?_
  | with_reducible refine lx_tup ?_
  | with_reducible refine lx_lst ?_
  | with_reducible refine cx_len_tup ?_
  | with_reducible refine cx_len_lst ?_
  | with_reducible refine cx_len_frl ?_
  | with_reducible refine cx_max2 ?_
  | with_reducible refine ux_neg ?_
  | with_reducible refine cx_list_lst ?_
  | with_reducible refine cx_tuple_lst ?_
  | with_reducible refine cx_tuple_tup ?_
  | with_reducible refine mx_isdigit ?_
  | with_reducible refine mx_startswith ?_
  | with_reducible refine ix_any ?_
  | with_reducible refine And.intro (Nat.le_of_ble_eq_true rfl) ?_
  | refine Exists.intro _ (And.intro rfl ?_))
local macro_rules | `(tactic| walk_at "w") => `(tactic| repeat (walk_at "w1"))


section
variable {P : Program} {w : World} {K : PySem.W.Frag} {mg : Str → Option Value} {base : Heap} {C WE BP BT NC BJ : Addr}

abbrev s_Polygon_parse : Stmt := inClass (top 17) 2
theorem sc_Polygon_parse : FnScope ["cls", "text", "points"] ["cls", "text"] (defScope s_Polygon_parse) := ⟨rfl, rfl, rfl, by decide +kernel, rfl, by decide +kernel, by decide +kernel⟩

theorem ok_parseX {f : Addr} {fd : FuncData} (F : Fun K "parse" "Polygon.parse" s_Polygon_parse f fd) (T : Tx K mg C) (c_read_pointsX : CalX P w K mg base 3 "read_points" (spReadX K BT)) (c_mkX : MkX P w K mg base 4 C "Polygon" (spInitX K C BP)) : FnOk P w K mg base (L2.CX P w) 6 f fd ["cls", "text"] (spParseX K C BP BT) := by
  refine F.okX sc_Polygon_parse (spX_len (n := 2) (fun x ds M h => by rw [h.1] <;> rfl)) (fun cdv A outer s H vs Q E hr h => ⟨_, (pss_cons (ps_set (i := 2) sc_Polygon_parse.nd rfl (Or.inl rfl) (pe_cX c_read_pointsX (pX (takes_of rfl rfl rfl rfl)) hr (by decide) rfl (pa_cons (pv 1) pa_nil))) (pss_one (ps_ret (pe_mkXV c_mkX (pX (takes_of rfl rfl rfl rfl)) hr (by decide) (pv 0) (pv 2))))), enterX h ?_⟩)
  dsimp only [cxOf, Cx.nox, Cx.wish]
  rintro w0 ds M ⟨rfl, hrd⟩
  refine sy_seq (sy_set (ey_call ?_))
  walk_at "w"
  refine ⟨w0, ⟨rfl, hrd⟩, ?_, ?_⟩
  · rintro d M2 ⟨ps, hps, rfl, rfl⟩
    have hT := textF_some hps
    have hl : ps.length ≤ 301 := by
      have q := congrArg List.length hps
      rw [List.length_map] at q
      have z := (rd_blank hrd).2.1
      unfold rdV at q
      rw [List.length_map] at q
      omega
    refine sy_ret (ey_frzI (ey_makeV ?_))
    walk_at "w"
    refine ⟨rfl, ey_makeS ?_⟩
    walk_at "w"
    refine ⟨_, _, .inl ⟨.inl rfl, rfl⟩, fun x hx => ⟨(x, ps.map l2), ⟨by rw [map_T1_l2], put_same, by rw [List.length_map]; omega⟩, ?_, ?_⟩⟩
    · rintro d M3 ⟨hg, rfl, rfl⟩
      obtain ⟨qs, hq1, hq2⟩ := poly_of (C := C) hg
      exact ⟨rfl, x, C, _, rfl, put_same, M2, del_put_sub (Sub.put (Sub.refl M2) hx) hx, qs, hT.trans hq1, hq2, rfl⟩
    · rintro C' gs M3 ⟨rfl, rfl, i, hb, rfl⟩
      exact ⟨M2, Sub.put (Sub.refl M2) hx, rfl, .inr ⟨rfl, i, hT.trans (poly_bad hb), rfl⟩⟩
  · rintro C' gs M2 ⟨rfl, rfl, i, hb, rfl⟩
    exact ⟨M2, Sub.refl _, rfl, .inl ⟨rfl, i, by unfold textF; rw [hb], rfl⟩⟩

abbrev s__law_tried : Stmt := top 22
theorem sc__law_tried : FnScope ["t", "size"] ["t"] (defScope s__law_tried) := ⟨rfl, rfl, rfl, by decide +kernel, rfl, by decide +kernel, by decide +kernel⟩

theorem ok__law_tried {f : Addr} {fd : FuncData} (F : Fun K "_law_tried" "_law_tried" s__law_tried f fd) (T : Tx K mg C) (c_mkX : MkX P w K mg base 4 C "Polygon" (spInitX K C BP)) : FnOk P w K mg base (L2.CX P w) 6 f fd ["t"] (spTried K C BP) := by
  refine F.okX sc__law_tried (spX_len (n := 1) (fun x ds M h => by rw [h.1] <;> rfl)) (fun cdv A outer s H vs Q E hr h => ⟨_, (pss_cons (ps_set (i := 1) sc__law_tried.nd rfl (Or.inl rfl) (pe_callB call_lenA (by rfl) T.n_len (by decide +kernel) (pa_cons (pv 0) pa_nil))) (pss_cons (ps_if (pt_cmpR (op_eqA hr.units) (pv 1) pe_int (nomark _)) (pss_one (ps_ret (pe_mkX0 c_mkX (pX (takes_of rfl rfl rfl rfl)) hr (by decide) rfl))) pss_nil) (pss_cons (ps_if (pt_cmpR op_lt (pv 1) pe_int (nomark _)) (pss_one (ps_ret (pe_ifExp (pt_cmpR (op_eqA hr.units) (pv 1) pe_int (nomark _)) (pe_mkXA c_mkX (pX (takes_of rfl rfl rfl rfl)) hr (by decide) rfl (pa_cons (pe_ix ix_seq (pv 0) pe_int (fun _ _ => rfl)) pa_nil)) (pe_mkXA c_mkX (pX (takes_of rfl rfl rfl rfl)) hr (by decide) rfl (pa_cons (pe_ix ix_seq (pv 0) pe_int (fun _ _ => rfl)) (pa_cons (pe_ix ix_seq (pv 0) pe_int (fun _ _ => rfl)) pa_nil)))))) pss_nil) (pss_cons (ps_if (pt_cmpR op_lt (pv 1) pe_int (nomark _)) (pss_one (ps_ret (pe_ifExp (pt_cmpR (op_eqA hr.units) (pv 1) pe_int (nomark _)) (pe_mkXA c_mkX (pX (takes_of rfl rfl rfl rfl)) hr (by decide) rfl (pa_cons (pe_ix ix_seq (pv 0) pe_int (fun _ _ => rfl)) (pa_cons (pe_ix ix_seq (pv 0) pe_int (fun _ _ => rfl)) (pa_cons (pe_ix ix_seq (pv 0) pe_int (fun _ _ => rfl)) pa_nil)))) (pe_mkXA c_mkX (pX (takes_of rfl rfl rfl rfl)) hr (by decide) rfl (pa_cons (pe_ix ix_seq (pv 0) pe_int (fun _ _ => rfl)) (pa_cons (pe_ix ix_seq (pv 0) pe_int (fun _ _ => rfl)) (pa_cons (pe_ix ix_seq (pv 0) pe_int (fun _ _ => rfl)) (pa_cons (pe_ix ix_seq (pv 0) pe_int (fun _ _ => rfl)) pa_nil)))))))) pss_nil) (pss_cons (ps_if (pt_cmpR op_lt (pv 1) pe_int (nomark _)) (pss_cons (ps_if (pt_cmpR (op_eqA hr.units) (pv 1) pe_int (nomark _)) (pss_one (ps_ret (pe_mkXA c_mkX (pX (takes_of rfl rfl rfl rfl)) hr (by decide) rfl (pa_cons (pe_ix ix_seq (pv 0) pe_int (fun _ _ => rfl)) (pa_cons (pe_ix ix_seq (pv 0) pe_int (fun _ _ => rfl)) (pa_cons (pe_ix ix_seq (pv 0) pe_int (fun _ _ => rfl)) (pa_cons (pe_ix ix_seq (pv 0) pe_int (fun _ _ => rfl)) (pa_cons (pe_ix ix_seq (pv 0) pe_int (fun _ _ => rfl)) pa_nil)))))))) pss_nil) (pss_cons (ps_if (pt_cmpR (op_eqA hr.units) (pv 1) pe_int (nomark _)) (pss_one (ps_ret (pe_mkXA c_mkX (pX (takes_of rfl rfl rfl rfl)) hr (by decide) rfl (pa_cons (pe_ix ix_seq (pv 0) pe_int (fun _ _ => rfl)) (pa_cons (pe_ix ix_seq (pv 0) pe_int (fun _ _ => rfl)) (pa_cons (pe_ix ix_seq (pv 0) pe_int (fun _ _ => rfl)) (pa_cons (pe_ix ix_seq (pv 0) pe_int (fun _ _ => rfl)) (pa_cons (pe_ix ix_seq (pv 0) pe_int (fun _ _ => rfl)) (pa_cons (pe_ix ix_seq (pv 0) pe_int (fun _ _ => rfl)) pa_nil))))))))) pss_nil) (pss_one (ps_ret (pe_mkXA c_mkX (pX (takes_of rfl rfl rfl rfl)) hr (by decide) rfl (pa_cons (pe_ix ix_seq (pv 0) pe_int (fun _ _ => rfl)) (pa_cons (pe_ix ix_seq (pv 0) pe_int (fun _ _ => rfl)) (pa_cons (pe_ix ix_seq (pv 0) pe_int (fun _ _ => rfl)) (pa_cons (pe_ix ix_seq (pv 0) pe_int (fun _ _ => rfl)) (pa_cons (pe_ix ix_seq (pv 0) pe_int (fun _ _ => rfl)) (pa_cons (pe_ix ix_seq (pv 0) pe_int (fun _ _ => rfl)) (pa_cons (pe_ix ix_seq (pv 0) pe_int (fun _ _ => rfl)) pa_nil)))))))))))) pss_nil) (pss_cons (ps_if (pt_cmpR (op_eqA hr.units) (pv 1) pe_int (nomark _)) (pss_one (ps_ret (pe_mkXA c_mkX (pX (takes_of rfl rfl rfl rfl)) hr (by decide) rfl (pa_cons (pe_ix ix_seq (pv 0) pe_int (fun _ _ => rfl)) (pa_cons (pe_ix ix_seq (pv 0) pe_int (fun _ _ => rfl)) (pa_cons (pe_ix ix_seq (pv 0) pe_int (fun _ _ => rfl)) (pa_cons (pe_ix ix_seq (pv 0) pe_int (fun _ _ => rfl)) (pa_cons (pe_ix ix_seq (pv 0) pe_int (fun _ _ => rfl)) (pa_cons (pe_ix ix_seq (pv 0) pe_int (fun _ _ => rfl)) (pa_cons (pe_ix ix_seq (pv 0) pe_int (fun _ _ => rfl)) (pa_cons (pe_ix ix_seq (pv 0) pe_int (fun _ _ => rfl)) pa_nil))))))))))) pss_nil) (pss_cons (ps_if (pt_cmpR (op_eqA hr.units) (pv 1) pe_int (nomark _)) (pss_one (ps_ret (pe_mkXA c_mkX (pX (takes_of rfl rfl rfl rfl)) hr (by decide) rfl (pa_cons (pe_ix ix_seq (pv 0) pe_int (fun _ _ => rfl)) (pa_cons (pe_ix ix_seq (pv 0) pe_int (fun _ _ => rfl)) (pa_cons (pe_ix ix_seq (pv 0) pe_int (fun _ _ => rfl)) (pa_cons (pe_ix ix_seq (pv 0) pe_int (fun _ _ => rfl)) (pa_cons (pe_ix ix_seq (pv 0) pe_int (fun _ _ => rfl)) (pa_cons (pe_ix ix_seq (pv 0) pe_int (fun _ _ => rfl)) (pa_cons (pe_ix ix_seq (pv 0) pe_int (fun _ _ => rfl)) (pa_cons (pe_ix ix_seq (pv 0) pe_int (fun _ _ => rfl)) (pa_cons (pe_ix ix_seq (pv 0) pe_int (fun _ _ => rfl)) pa_nil)))))))))))) pss_nil) (pss_one (ps_ret (pe_mkXA c_mkX (pX (takes_of rfl rfl rfl rfl)) hr (by decide) rfl (pa_cons (pe_ix ix_seq (pv 0) pe_int (fun _ _ => rfl)) (pa_cons (pe_ix ix_seq (pv 0) pe_int (fun _ _ => rfl)) (pa_cons (pe_ix ix_seq (pv 0) pe_int (fun _ _ => rfl)) (pa_cons (pe_ix ix_seq (pv 0) pe_int (fun _ _ => rfl)) (pa_cons (pe_ix ix_seq (pv 0) pe_int (fun _ _ => rfl)) (pa_cons (pe_ix ix_seq (pv 0) pe_int (fun _ _ => rfl)) (pa_cons (pe_ix ix_seq (pv 0) pe_int (fun _ _ => rfl)) (pa_cons (pe_ix ix_seq (pv 0) pe_int (fun _ _ => rfl)) (pa_cons (pe_ix ix_seq (pv 0) pe_int (fun _ _ => rfl)) (pa_cons (pe_ix ix_seq (pv 0) pe_int (fun _ _ => rfl)) pa_nil)))))))))))))))))))), enterX h ?_⟩)
  dsimp only [cxOf, Cx.nox, Cx.wish]
  rintro ts ds M ⟨rfl, h10⟩
  match ts, h10 with
    | [], _ =>
      refine sy_seqx (sx_set ?_)
      walk_at "w"
      refine sy_seq (sy_if ?_)
      walk_at "w"
      refine ⟨fun _ => ?_, fun h => (dF h (by simp)).elim⟩
      refine sy_ret ?_
      refine ey_frzI (ey_makeA ?_)
      walk_at "w"
      refine fun x hx => ⟨(x, []), ⟨rfl, put_same, by simp⟩, ?_, ?_⟩
      · rintro d M2 ⟨hg, rfl, rfl⟩
        obtain ⟨qs, hq1, hq2⟩ := poly_of (C := C) hg
        exact ⟨rfl, x, C, _, rfl, put_same, M, del_put_sub (Sub.put (Sub.refl M) hx) hx, qs, hq1, hq2, rfl⟩
      · rintro C' gs M2 ⟨rfl, rfl, i, hb, rfl⟩
        exact ⟨M, Sub.put (Sub.refl M) hx, rfl, rfl, i, poly_bad hb, rfl⟩
    | [t0], _ =>
      refine sy_seqx (sx_set ?_)
      walk_at "w"
      refine sy_seq (sy_if ?_)
      walk_at "w"
      refine ⟨fun h => absurd (dT h) (by simp), fun _ => ?_⟩
      refine sy_of (sx_next ?_)
      refine sy_seq (sy_if ?_)
      walk_at "w"
      refine ⟨fun _ => ?_, fun h => (dF h (by simp)).elim⟩
      refine sy_ret (ey_if ?_)
      walk_at "w"
      refine ⟨fun _ => ?_, fun h => (dF h (by simp)).elim⟩
      refine ey_frzI (ey_makeA ?_)
      walk_at "w"
      refine fun x hx => ⟨(x, [t0]), ⟨rfl, put_same, by simp⟩, ?_, ?_⟩
      · rintro d M2 ⟨hg, rfl, rfl⟩
        obtain ⟨qs, hq1, hq2⟩ := poly_of (C := C) hg
        exact ⟨rfl, x, C, _, rfl, put_same, M, del_put_sub (Sub.put (Sub.refl M) hx) hx, qs, hq1, hq2, rfl⟩
      · rintro C' gs M2 ⟨rfl, rfl, i, hb, rfl⟩
        exact ⟨M, Sub.put (Sub.refl M) hx, rfl, rfl, i, poly_bad hb, rfl⟩
    | [t0, t1], _ =>
      refine sy_seqx (sx_set ?_)
      walk_at "w"
      refine sy_seq (sy_if ?_)
      walk_at "w"
      refine ⟨fun h => absurd (dT h) (by simp), fun _ => ?_⟩
      refine sy_of (sx_next ?_)
      refine sy_seq (sy_if ?_)
      walk_at "w"
      refine ⟨fun _ => ?_, fun h => (dF h (by simp)).elim⟩
      refine sy_ret (ey_if ?_)
      walk_at "w"
      refine ⟨fun h => absurd (dT h) (by simp), fun _ => ?_⟩
      refine ey_frzI (ey_makeA ?_)
      walk_at "w"
      refine fun x hx => ⟨(x, [t0, t1]), ⟨rfl, put_same, by simp⟩, ?_, ?_⟩
      · rintro d M2 ⟨hg, rfl, rfl⟩
        obtain ⟨qs, hq1, hq2⟩ := poly_of (C := C) hg
        exact ⟨rfl, x, C, _, rfl, put_same, M, del_put_sub (Sub.put (Sub.refl M) hx) hx, qs, hq1, hq2, rfl⟩
      · rintro C' gs M2 ⟨rfl, rfl, i, hb, rfl⟩
        exact ⟨M, Sub.put (Sub.refl M) hx, rfl, rfl, i, poly_bad hb, rfl⟩
    | [t0, t1, t2], _ =>
      refine sy_seqx (sx_set ?_)
      walk_at "w"
      refine sy_seq (sy_if ?_)
      walk_at "w"
      refine ⟨fun h => absurd (dT h) (by simp), fun _ => ?_⟩
      refine sy_of (sx_next ?_)
      refine sy_seq (sy_if ?_)
      walk_at "w"
      refine ⟨fun h => absurd (dT h) (by simp), fun _ => ?_⟩
      refine sy_of (sx_next ?_)
      refine sy_seq (sy_if ?_)
      walk_at "w"
      refine ⟨fun _ => ?_, fun h => (dF h (by simp)).elim⟩
      refine sy_ret (ey_if ?_)
      walk_at "w"
      refine ⟨fun _ => ?_, fun h => (dF h (by simp)).elim⟩
      refine ey_frzI (ey_makeA ?_)
      walk_at "w"
      refine fun x hx => ⟨(x, [t0, t1, t2]), ⟨rfl, put_same, by simp⟩, ?_, ?_⟩
      · rintro d M2 ⟨hg, rfl, rfl⟩
        obtain ⟨qs, hq1, hq2⟩ := poly_of (C := C) hg
        exact ⟨rfl, x, C, _, rfl, put_same, M, del_put_sub (Sub.put (Sub.refl M) hx) hx, qs, hq1, hq2, rfl⟩
      · rintro C' gs M2 ⟨rfl, rfl, i, hb, rfl⟩
        exact ⟨M, Sub.put (Sub.refl M) hx, rfl, rfl, i, poly_bad hb, rfl⟩
    | [t0, t1, t2, t3], _ =>
      refine sy_seqx (sx_set ?_)
      walk_at "w"
      refine sy_seq (sy_if ?_)
      walk_at "w"
      refine ⟨fun h => absurd (dT h) (by simp), fun _ => ?_⟩
      refine sy_of (sx_next ?_)
      refine sy_seq (sy_if ?_)
      walk_at "w"
      refine ⟨fun h => absurd (dT h) (by simp), fun _ => ?_⟩
      refine sy_of (sx_next ?_)
      refine sy_seq (sy_if ?_)
      walk_at "w"
      refine ⟨fun _ => ?_, fun h => (dF h (by simp)).elim⟩
      refine sy_ret (ey_if ?_)
      walk_at "w"
      refine ⟨fun h => absurd (dT h) (by simp), fun _ => ?_⟩
      refine ey_frzI (ey_makeA ?_)
      walk_at "w"
      refine fun x hx => ⟨(x, [t0, t1, t2, t3]), ⟨rfl, put_same, by simp⟩, ?_, ?_⟩
      · rintro d M2 ⟨hg, rfl, rfl⟩
        obtain ⟨qs, hq1, hq2⟩ := poly_of (C := C) hg
        exact ⟨rfl, x, C, _, rfl, put_same, M, del_put_sub (Sub.put (Sub.refl M) hx) hx, qs, hq1, hq2, rfl⟩
      · rintro C' gs M2 ⟨rfl, rfl, i, hb, rfl⟩
        exact ⟨M, Sub.put (Sub.refl M) hx, rfl, rfl, i, poly_bad hb, rfl⟩
    | [t0, t1, t2, t3, t4], _ =>
      refine sy_seqx (sx_set ?_)
      walk_at "w"
      refine sy_seq (sy_if ?_)
      walk_at "w"
      refine ⟨fun h => absurd (dT h) (by simp), fun _ => ?_⟩
      refine sy_of (sx_next ?_)
      refine sy_seq (sy_if ?_)
      walk_at "w"
      refine ⟨fun h => absurd (dT h) (by simp), fun _ => ?_⟩
      refine sy_of (sx_next ?_)
      refine sy_seq (sy_if ?_)
      walk_at "w"
      refine ⟨fun h => absurd (dT h) (by simp), fun _ => ?_⟩
      refine sy_of (sx_next ?_)
      refine sy_seq (sy_if ?_)
      walk_at "w"
      refine ⟨fun _ => ?_, fun h => (dF h (by simp)).elim⟩
      refine sy_seq (sy_if ?_)
      walk_at "w"
      refine ⟨fun _ => ?_, fun h => (dF h (by simp)).elim⟩
      refine sy_ret ?_
      refine ey_frzI (ey_makeA ?_)
      walk_at "w"
      refine fun x hx => ⟨(x, [t0, t1, t2, t3, t4]), ⟨rfl, put_same, by simp⟩, ?_, ?_⟩
      · rintro d M2 ⟨hg, rfl, rfl⟩
        obtain ⟨qs, hq1, hq2⟩ := poly_of (C := C) hg
        exact ⟨rfl, x, C, _, rfl, put_same, M, del_put_sub (Sub.put (Sub.refl M) hx) hx, qs, hq1, hq2, rfl⟩
      · rintro C' gs M2 ⟨rfl, rfl, i, hb, rfl⟩
        exact ⟨M, Sub.put (Sub.refl M) hx, rfl, rfl, i, poly_bad hb, rfl⟩
    | [t0, t1, t2, t3, t4, t5], _ =>
      refine sy_seqx (sx_set ?_)
      walk_at "w"
      refine sy_seq (sy_if ?_)
      walk_at "w"
      refine ⟨fun h => absurd (dT h) (by simp), fun _ => ?_⟩
      refine sy_of (sx_next ?_)
      refine sy_seq (sy_if ?_)
      walk_at "w"
      refine ⟨fun h => absurd (dT h) (by simp), fun _ => ?_⟩
      refine sy_of (sx_next ?_)
      refine sy_seq (sy_if ?_)
      walk_at "w"
      refine ⟨fun h => absurd (dT h) (by simp), fun _ => ?_⟩
      refine sy_of (sx_next ?_)
      refine sy_seq (sy_if ?_)
      walk_at "w"
      refine ⟨fun _ => ?_, fun h => (dF h (by simp)).elim⟩
      refine sy_seq (sy_if ?_)
      walk_at "w"
      refine ⟨fun h => absurd (dT h) (by simp), fun _ => ?_⟩
      refine sy_of (sx_next ?_)
      refine sy_seq (sy_if ?_)
      walk_at "w"
      refine ⟨fun _ => ?_, fun h => (dF h (by simp)).elim⟩
      refine sy_ret ?_
      refine ey_frzI (ey_makeA ?_)
      walk_at "w"
      refine fun x hx => ⟨(x, [t0, t1, t2, t3, t4, t5]), ⟨rfl, put_same, by simp⟩, ?_, ?_⟩
      · rintro d M2 ⟨hg, rfl, rfl⟩
        obtain ⟨qs, hq1, hq2⟩ := poly_of (C := C) hg
        exact ⟨rfl, x, C, _, rfl, put_same, M, del_put_sub (Sub.put (Sub.refl M) hx) hx, qs, hq1, hq2, rfl⟩
      · rintro C' gs M2 ⟨rfl, rfl, i, hb, rfl⟩
        exact ⟨M, Sub.put (Sub.refl M) hx, rfl, rfl, i, poly_bad hb, rfl⟩
    | [t0, t1, t2, t3, t4, t5, t6], _ =>
      refine sy_seqx (sx_set ?_)
      walk_at "w"
      refine sy_seq (sy_if ?_)
      walk_at "w"
      refine ⟨fun h => absurd (dT h) (by simp), fun _ => ?_⟩
      refine sy_of (sx_next ?_)
      refine sy_seq (sy_if ?_)
      walk_at "w"
      refine ⟨fun h => absurd (dT h) (by simp), fun _ => ?_⟩
      refine sy_of (sx_next ?_)
      refine sy_seq (sy_if ?_)
      walk_at "w"
      refine ⟨fun h => absurd (dT h) (by simp), fun _ => ?_⟩
      refine sy_of (sx_next ?_)
      refine sy_seq (sy_if ?_)
      walk_at "w"
      refine ⟨fun _ => ?_, fun h => (dF h (by simp)).elim⟩
      refine sy_seq (sy_if ?_)
      walk_at "w"
      refine ⟨fun h => absurd (dT h) (by simp), fun _ => ?_⟩
      refine sy_of (sx_next ?_)
      refine sy_seq (sy_if ?_)
      walk_at "w"
      refine ⟨fun h => absurd (dT h) (by simp), fun _ => ?_⟩
      refine sy_of (sx_next ?_)
      refine sy_ret ?_
      refine ey_frzI (ey_makeA ?_)
      walk_at "w"
      refine fun x hx => ⟨(x, [t0, t1, t2, t3, t4, t5, t6]), ⟨rfl, put_same, by simp⟩, ?_, ?_⟩
      · rintro d M2 ⟨hg, rfl, rfl⟩
        obtain ⟨qs, hq1, hq2⟩ := poly_of (C := C) hg
        exact ⟨rfl, x, C, _, rfl, put_same, M, del_put_sub (Sub.put (Sub.refl M) hx) hx, qs, hq1, hq2, rfl⟩
      · rintro C' gs M2 ⟨rfl, rfl, i, hb, rfl⟩
        exact ⟨M, Sub.put (Sub.refl M) hx, rfl, rfl, i, poly_bad hb, rfl⟩
    | [t0, t1, t2, t3, t4, t5, t6, t7], _ =>
      refine sy_seqx (sx_set ?_)
      walk_at "w"
      refine sy_seq (sy_if ?_)
      walk_at "w"
      refine ⟨fun h => absurd (dT h) (by simp), fun _ => ?_⟩
      refine sy_of (sx_next ?_)
      refine sy_seq (sy_if ?_)
      walk_at "w"
      refine ⟨fun h => absurd (dT h) (by simp), fun _ => ?_⟩
      refine sy_of (sx_next ?_)
      refine sy_seq (sy_if ?_)
      walk_at "w"
      refine ⟨fun h => absurd (dT h) (by simp), fun _ => ?_⟩
      refine sy_of (sx_next ?_)
      refine sy_seq (sy_if ?_)
      walk_at "w"
      refine ⟨fun h => absurd (dT h) (by simp), fun _ => ?_⟩
      refine sy_of (sx_next ?_)
      refine sy_seq (sy_if ?_)
      walk_at "w"
      refine ⟨fun _ => ?_, fun h => (dF h (by simp)).elim⟩
      refine sy_ret ?_
      refine ey_frzI (ey_makeA ?_)
      walk_at "w"
      refine fun x hx => ⟨(x, [t0, t1, t2, t3, t4, t5, t6, t7]), ⟨rfl, put_same, by simp⟩, ?_, ?_⟩
      · rintro d M2 ⟨hg, rfl, rfl⟩
        obtain ⟨qs, hq1, hq2⟩ := poly_of (C := C) hg
        exact ⟨rfl, x, C, _, rfl, put_same, M, del_put_sub (Sub.put (Sub.refl M) hx) hx, qs, hq1, hq2, rfl⟩
      · rintro C' gs M2 ⟨rfl, rfl, i, hb, rfl⟩
        exact ⟨M, Sub.put (Sub.refl M) hx, rfl, rfl, i, poly_bad hb, rfl⟩
    | [t0, t1, t2, t3, t4, t5, t6, t7, t8], _ =>
      refine sy_seqx (sx_set ?_)
      walk_at "w"
      refine sy_seq (sy_if ?_)
      walk_at "w"
      refine ⟨fun h => absurd (dT h) (by simp), fun _ => ?_⟩
      refine sy_of (sx_next ?_)
      refine sy_seq (sy_if ?_)
      walk_at "w"
      refine ⟨fun h => absurd (dT h) (by simp), fun _ => ?_⟩
      refine sy_of (sx_next ?_)
      refine sy_seq (sy_if ?_)
      walk_at "w"
      refine ⟨fun h => absurd (dT h) (by simp), fun _ => ?_⟩
      refine sy_of (sx_next ?_)
      refine sy_seq (sy_if ?_)
      walk_at "w"
      refine ⟨fun h => absurd (dT h) (by simp), fun _ => ?_⟩
      refine sy_of (sx_next ?_)
      refine sy_seq (sy_if ?_)
      walk_at "w"
      refine ⟨fun h => absurd (dT h) (by simp), fun _ => ?_⟩
      refine sy_of (sx_next ?_)
      refine sy_seq (sy_if ?_)
      walk_at "w"
      refine ⟨fun _ => ?_, fun h => (dF h (by simp)).elim⟩
      refine sy_ret ?_
      refine ey_frzI (ey_makeA ?_)
      walk_at "w"
      refine fun x hx => ⟨(x, [t0, t1, t2, t3, t4, t5, t6, t7, t8]), ⟨rfl, put_same, by simp⟩, ?_, ?_⟩
      · rintro d M2 ⟨hg, rfl, rfl⟩
        obtain ⟨qs, hq1, hq2⟩ := poly_of (C := C) hg
        exact ⟨rfl, x, C, _, rfl, put_same, M, del_put_sub (Sub.put (Sub.refl M) hx) hx, qs, hq1, hq2, rfl⟩
      · rintro C' gs M2 ⟨rfl, rfl, i, hb, rfl⟩
        exact ⟨M, Sub.put (Sub.refl M) hx, rfl, rfl, i, poly_bad hb, rfl⟩
    | [t0, t1, t2, t3, t4, t5, t6, t7, t8, t9], _ =>
      refine sy_seqx (sx_set ?_)
      walk_at "w"
      refine sy_seq (sy_if ?_)
      walk_at "w"
      refine ⟨fun h => absurd (dT h) (by simp), fun _ => ?_⟩
      refine sy_of (sx_next ?_)
      refine sy_seq (sy_if ?_)
      walk_at "w"
      refine ⟨fun h => absurd (dT h) (by simp), fun _ => ?_⟩
      refine sy_of (sx_next ?_)
      refine sy_seq (sy_if ?_)
      walk_at "w"
      refine ⟨fun h => absurd (dT h) (by simp), fun _ => ?_⟩
      refine sy_of (sx_next ?_)
      refine sy_seq (sy_if ?_)
      walk_at "w"
      refine ⟨fun h => absurd (dT h) (by simp), fun _ => ?_⟩
      refine sy_of (sx_next ?_)
      refine sy_seq (sy_if ?_)
      walk_at "w"
      refine ⟨fun h => absurd (dT h) (by simp), fun _ => ?_⟩
      refine sy_of (sx_next ?_)
      refine sy_seq (sy_if ?_)
      walk_at "w"
      refine ⟨fun h => absurd (dT h) (by simp), fun _ => ?_⟩
      refine sy_of (sx_next ?_)
      refine sy_ret ?_
      refine ey_frzI (ey_makeA ?_)
      walk_at "w"
      refine fun x hx => ⟨(x, [t0, t1, t2, t3, t4, t5, t6, t7, t8, t9]), ⟨rfl, put_same, by simp⟩, ?_, ?_⟩
      · rintro d M2 ⟨hg, rfl, rfl⟩
        obtain ⟨qs, hq1, hq2⟩ := poly_of (C := C) hg
        exact ⟨rfl, x, C, _, rfl, put_same, M, del_put_sub (Sub.put (Sub.refl M) hx) hx, qs, hq1, hq2, rfl⟩
      · rintro C' gs M2 ⟨rfl, rfl, i, hb, rfl⟩
        exact ⟨M, Sub.put (Sub.refl M) hx, rfl, rfl, i, poly_bad hb, rfl⟩

end
end Wk
/-! ## P54 -/
namespace Wk
open PySem L2 Evl
local macro_rules | `(tactic| walk_at "w1") => `(tactic| first
  | ((with_reducible refine' ex_var ?hv ?_); (case hv => rfl))
  | ((with_reducible refine' rx_ix_tup ?hv ?_); (case hv => rfl))
  | ((with_reducible refine' rx_ix_lst ?hv ?_); (case hv => rfl))
  | ((with_reducible refine' gx_tup ?hv ?_); (case hv => rfl))
  | ((with_reducible refine' rx_ix_cell ?hm ?hv ?_); (case hm => first | assumption | exact put_same); (case hv => rfl))
  | ((with_reducible refine' cx_len_cell ?hm ?_); (case hm => first | assumption | exact put_same))
  | ((with_reducible refine' rx_Ii ?hc ?_); (case hc => first | assumption | exact ⟨by decide, by decide +kernel⟩ | (show (0 : Int) < _; omega) | (show (0 : Int) < _; decide)))
  | ((with_reducible refine' rx_mul_int ?hc ?_); (case hc => first | assumption | exact cmul_l (by decide) (by decide) | exact cmul_r (by decide) (by decide)))
  | with_reducible refine ex_int ?_
  | with_reducible refine ex_str ?_
  | with_reducible refine ex_bl ?_
  | with_reducible refine ex_non ?_
  | with_reducible refine ex_raw ?_
  | with_reducible refine ex_op ?_
  | with_reducible refine ex_un ?_
  | with_reducible refine ex_cb ?_
  | with_reducible refine ex_tup ?_
  | with_reducible refine ex_sl ?_
  | with_reducible refine ox_none ?_
  | with_reducible refine ox_some ?_
  | with_reducible refine ax_nil ?_
  | with_reducible refine ax_cons ?_
  | with_reducible refine ex_if ?_
  | with_reducible refine ex_andV ?_
  | with_reducible refine ex_orV ?_
  | with_reducible refine ex_notV ?_
  | with_reducible refine ex_m0 ?_
  | with_reducible refine ex_m1 ?_
  | with_reducible refine tx_test ?_
  | with_reducible refine tx_B ?_
  | with_reducible refine tx_and ?_
  | with_reducible refine tx_or ?_
  | with_reducible refine tx_not ?_
  | with_reducible refine tx_yes ?_
  | with_reducible refine sx_seq ?_
  | with_reducible refine sx_set ?_
  | with_reducible refine sx_ret ?_
  | with_reducible refine sx_drop ?_
  | with_reducible refine sx_next ?_
  | with_reducible refine sx_if ?_
  | with_reducible refine sx_retN ?_
  | with_reducible refine sx_asg ?_
  | with_reducible refine sx_par ?_
  | with_reducible refine gx_name ?_
  | with_reducible refine gxs_cons ?_
  | with_reducible refine gxs_nil ?_
  | with_reducible refine rx_add_int ?_
  | with_reducible refine rx_I0i ?_
  | with_reducible refine rx_I0b ?_
  | with_reducible refine rx_eq_int ?_
  | with_reducible refine rx_ne_int ?_
  | with_reducible refine rx_eq_str ?_
  | with_reducible refine rx_ne_str ?_
  | with_reducible refine rx_eq_bl ?_
  | with_reducible refine rx_ne_bl ?_
  | with_reducible refine lx_tup ?_
  | with_reducible refine lx_lst ?_
  | with_reducible refine cx_len_tup ?_
  | with_reducible refine cx_len_lst ?_
  | with_reducible refine cx_len_frl ?_
  | with_reducible refine cx_max2 ?_
  | with_reducible refine ux_neg ?_
  | with_reducible refine cx_list_lst ?_
  | with_reducible refine cx_tuple_lst ?_
  | with_reducible refine cx_tuple_tup ?_
  | with_reducible refine mx_isdigit ?_
  | with_reducible refine mx_startswith ?_
  | with_reducible refine ix_any ?_
  | with_reducible refine And.intro (Nat.le_of_ble_eq_true rfl) ?_
  | refine Exists.intro _ (And.intro rfl ?_))
local macro_rules | `(tactic| walk_at "w") => `(tactic| repeat (walk_at "w1"))


section
variable {P : Program} {w : World} {K : PySem.W.Frag} {mg : Str → Option Value} {base : Heap} {C WE BP BT NC BJ : Addr}

abbrev s__law_integer : Stmt := top 23
theorem sc__law_integer : FnScope ["text", "digits", "digit"] ["text"] (defScope s__law_integer) := ⟨rfl, rfl, rfl, by decide +kernel, rfl, by decide +kernel, by decide +kernel⟩

theorem ok__law_integer {f : Addr} {fd : FuncData} (F : Fun K "_law_integer" "_law_integer" s__law_integer f fd) (T : Tx K mg C)  : FnOk P w K mg base CX0 1 f fd ["text"] (spInteger K) := by
  refine F.ok sc__law_integer (spD_len (n := 1) (fun x ds M h => by rw [h.1] <;> rfl)) (fun cdv A outer s H vs Q E hr h => ⟨_, (pss_cons (ps_set (i := 1) sc__law_integer.nd rfl (Or.inl rfl) (pe_ifExp (pt_cmpR (op_eqA hr.units) (pe_slice sl_any (pv 0) po_none (po_some pe_int)) pe_str (nomark _)) (pe_slice sl_any (pv 0) (po_some pe_int) po_none) (pv 0))) (pss_cons (ps_if (PW.pt (pw_or (pt_cmpR (op_eqA hr.units) (pv 1) pe_str (nomark _)) (pw_or1 (pt_cmpR (op_neA hr.units) (pe_lc (own := [("digit", 2)]) rfl sc__law_integer.nd (pi_str (pv 1)) (blkOk_by (own := [("digit", 2)]) (N := ["text", "digits", "digit"]) (sc := defScope s__law_integer) (by decide +kernel)) (fun _ _ _ _ _ => (pg_name (i := 2) sc__law_integer.nd rfl (Or.inl rfl))) (fun _ _ _ _ _ => (pts_one (pt_cmpR op_notIn_sign (pv 2) pe_str (by rfl)))) (fun _ _ _ _ _ => (pv 2))) (pe_lst pa_nil) (nomark _))))) (pss_one (ps_ret pe_non)) pss_nil) (pss_cons (ps_if (PW.pt (pw_and (pt_cmpR (op_eqA hr.units) (pe_ix ix_seq (pv 1) pe_int (fun _ _ => rfl)) pe_str (nomark _)) (pw_and1 (pt_cmpR (op_neA hr.units) (pv 0) pe_str (nomark _))))) (pss_one (ps_ret pe_non)) pss_nil) (pss_one (ps_ret (pe_callTy call_int_str (by rfl) T.n_int (by decide +kernel) (pa_cons (pv 0) pa_nil))))))), enter h ?_⟩)
  dsimp only [cxOf, Cx.nox, Cx.wish]
  rintro w ds M ⟨rfl, hrd⟩
  have hlen : w.length ≤ sizeLine := Nat.le_trans hrd.2 (by decide)
  refine sx_seqc (fun ρ' M' => M' = M ∧ ∃ D x, TL.tl D = digsL (TL.tl w) ∧ D.length ≤ w.length ∧ Asc D ∧ ρ' = [some (.str w), some (.str D), x]) (sx_set (ex_if ?_)) ?_
  · walk_at "w"
    refine lx_str hlen ?_
    walk_at "w"
    rw [show decide (cutS w none (some 1) = Str.ofString "-") = decide ((TL.tl w).headD 0 = 45 ∧ TL.tl w ≠ []) from cut_minus w]
    refine ⟨fun h => ?_, fun h => ?_⟩
    · have hd := dT h
      walk_at "w"
      refine lx_str hlen ?_
      have e := cut1_tl w
      refine ⟨rfl, _, _, ?_, ?_, ?_, rfl⟩
      · rw [e]
        unfold digsL
        rw [if_pos hd]
      · rw [TL.len_tl, TL.len_tl, e, List.length_drop]
        omega
      · intro c hc
        rw [e] at hc
        exact hrd.1 c (List.mem_of_mem_drop hc)
    · have hd := dF h
      walk_at "w"
      refine ⟨rfl, _, _, ?_, Nat.le_refl _, hrd.1, rfl⟩
      unfold digsL
      rw [if_neg hd]
  rintro ρ' M' ⟨rfl, D, x, hD, hDl, hDa, rfl⟩
  have none_ : lawB (TL.tl w) = false → (retE (fun d M'' => d = oI (numV w) ∧ M'' = M')).rt .non M' := fun h => ret_pure (by rw [numV_no hrd.1 h]; rfl) (Sub.refl _)
  walk_at "w"
  refine ⟨fun h => ⟨fun _ => ?_, fun h => by cases h⟩, fun h => ?_⟩
  · have e : TL.tl D = [] := by rw [show D = "" from dT h]; rfl
    refine sx_ret (ex_non (none_ ?_))
    unfold lawB
    rw [← hD, e]
    rfl
  have hne : TL.tl D ≠ [] := fun e => dF h (TL.ext_tl (by rw [e]; rfl))
  refine tx_test (ex_op (ex_lc (by exact gw_name (by decide)) (ix_str ?_)))
  walk_at "w"
  have hsl : (signs D).length = D.length := by
    unfold signs
    rw [List.length_map, TL.len_tl]
  refine ⟨?_, fun i acc M2 => M2 = M' ∧ acc = (nd ((TL.tl D).take i)).map Dt.str, ⟨rfl, rfl⟩, fun _ _ _ _ _ => trivial, ?_, ?_⟩
  · rw [hsl]
    exact Nat.lt_of_le_of_lt (Nat.le_trans hDl hrd.2) (by decide)
  · rintro i d acc M2 hi ⟨rfl, rfl⟩ _
    unfold signs at hi
    rw [List.getElem?_map] at hi
    obtain ⟨c, hc, rfl⟩ := Option.map_eq_some_iff.mp hi
    have hlt := (List.getElem?_eq_some_iff.mp hc).1
    have hce := (List.getElem?_eq_some_iff.mp hc).2
    have hca := hDa c (List.mem_of_getElem? hc)
    walk_at "w"
    refine rx_notIn_sign ?_
    walk_at "w"
    rw [show decide (c ∈ TL.tl (Str.ofString "0123456789")) = dig c from mem_digits c hca]
    have es : nd ((TL.tl D).take (i + 1)) = nd ((TL.tl D).take i) ++ (if dig c then [] else [⟨#[c]⟩]) := by
      rw [List.take_succ_eq_append_getElem hlt, hce, nd_snoc]
    refine ⟨fun h => ?_, fun h => ?_⟩
    · walk_at "w"
      have hd : dig c = false := by simpa using h
      rw [hd] at es
      exact ⟨rfl, by rw [es, List.map_append] <;> rfl⟩
    · have hd : dig c = true := by simpa using h
      rw [hd] at es
      exact ⟨rfl, by rw [es]; simp⟩
  · rintro acc M2 ⟨rfl, rfl⟩ _
    rw [show (TL.tl D).take (signs D).length = TL.tl D by rw [hsl, TL.len_tl, List.take_length]]
    walk_at "w"
    refine ex_lst ?_
    walk_at "w"
    refine rx_neD (plain_strs fun y hy => ?_) (show plain 60 (.lst []) = true from rfl) ?_
    · unfold nd at hy
      obtain ⟨c, hc, rfl⟩ := List.mem_map.mp hy
      exact strOk_one (hDa c (List.mem_filter.mp hc).1)
    rw [eqB_nil, List.isEmpty_map, nd_empty]
    walk_at "w"
    refine ⟨fun h => ?_, fun h => ?_⟩
    · refine sx_ret (ex_non (none_ ?_))
      have hd : (TL.tl D).all dig = false := by simpa using h
      unfold lawB
      rw [← hD, hd]
      simp
    have hall : (TL.tl D).all dig = true := by simpa using h
    refine sx_next ?_
    obtain ⟨c, r, hcr⟩ : ∃ c r, TL.tl D = c :: r := by
      cases e : TL.tl D with
      | nil => exact absurd e hne
      | cons c r => exact ⟨c, r, rfl⟩
    have lb : lawB (TL.tl w) = !(decide (c = 48) && !decide (TL.tl w = [48])) := by
      unfold lawB
      rw [← hD, hall, hcr]
      simp
    have e48 : ∀ c : Nat, decide ((⟨#[c]⟩ : Str) = Str.ofString "0") = decide (c = 48) := fun c => one_eq c 48
    have ew : decide (w = Str.ofString "0") = decide (TL.tl w = [48]) := decide_eq_decide.mpr (by rw [str_eq, show TL.tl (Str.ofString "0") = [48] from tl_s0])
    walk_at "w"
    refine rx_ix_str (c := c) (Nat.le_trans hDl hlen) (by rw [show D.cps.toList = c :: r from hcr]; exact atI_at (xs := c :: r) (j := 0) rfl) ?_
    walk_at "w"
    rw [e48]
    refine ⟨fun h1 => ?_, fun h1 => ⟨(fun h => by cases h), fun _ => ?_⟩⟩
    · walk_at "w"
      rw [ew]
      refine ⟨fun h2 => ?_, fun h2 => ?_⟩
      · refine sx_ret (ex_non (none_ ?_))
        rw [lb, h1, h2] <;> rfl
      · refine sx_next ?_
        have hb : lawB (TL.tl w) = true := by rw [lb, h1, h2] <;> rfl
        obtain ⟨k, k1, k2⟩ := numV_yes hrd.1 (by have := hrd.2; omega) hb
        walk_at "w"
        refine cx_int k1 (Nat.le_trans hrd.2 (by decide)) ?_
        exact ret_pure (by rw [k2] <;> rfl) (Sub.refl _)
    · refine sx_next ?_
      have hb : lawB (TL.tl w) = true := by rw [lb, h1] <;> rfl
      obtain ⟨k, k1, k2⟩ := numV_yes hrd.1 (by have := hrd.2; omega) hb
      walk_at "w"
      refine cx_int k1 (Nat.le_trans hrd.2 (by decide)) ?_
      exact ret_pure (by rw [k2] <;> rfl) (Sub.refl _)

end
end Wk
/-! ## P55 -/
namespace Wk
open PySem L2 Evl
local macro_rules | `(tactic| walk_at "w1") => `(tactic| first
  | ((with_reducible refine' ex_var ?hv ?_); (case hv => rfl))
  | ((with_reducible refine' rx_ix_tup ?hv ?_); (case hv => rfl))
  | ((with_reducible refine' rx_ix_lst ?hv ?_); (case hv => rfl))
  | ((with_reducible refine' gx_tup ?hv ?_); (case hv => rfl))
  | ((with_reducible refine' rx_ix_cell ?hm ?hv ?_); (case hm => first | assumption | exact put_same); (case hv => rfl))
  | ((with_reducible refine' cx_len_cell ?hm ?_); (case hm => first | assumption | exact put_same))
  | ((with_reducible refine' rx_Ii ?hc ?_); (case hc => first | assumption | exact ⟨by decide, by decide +kernel⟩ | (show (0 : Int) < _; omega) | (show (0 : Int) < _; decide)))
  | ((with_reducible refine' rx_mul_int ?hc ?_); (case hc => first | assumption | exact cmul_l (by decide) (by decide) | exact cmul_r (by decide) (by decide)))
  | with_reducible refine ex_int ?_
  | with_reducible refine ex_str ?_
  | with_reducible refine ex_bl ?_
  | with_reducible refine ex_non ?_
  | with_reducible refine ex_raw ?_
  | with_reducible refine ex_op ?_
  | with_reducible refine ex_un ?_
  | with_reducible refine ex_cb ?_
  | with_reducible refine ex_tup ?_
  | with_reducible refine ex_sl ?_
  | with_reducible refine ox_none ?_
  | with_reducible refine ox_some ?_
  | with_reducible refine ax_nil ?_
  | with_reducible refine ax_cons ?_
  | with_reducible refine ex_if ?_
  | with_reducible refine ex_andV ?_
  | with_reducible refine ex_orV ?_
  | with_reducible refine ex_notV ?_
  | with_reducible refine ex_m0 ?_
  | with_reducible refine ex_m1 ?_
  | with_reducible refine tx_test ?_
  | with_reducible refine tx_B ?_
  | with_reducible refine tx_and ?_
  | with_reducible refine tx_or ?_
  | with_reducible refine tx_not ?_
  | with_reducible refine tx_yes ?_
  | with_reducible refine sx_seq ?_
  | with_reducible refine sx_set ?_
  | with_reducible refine sx_ret ?_
  | with_reducible refine sx_drop ?_
  | with_reducible refine sx_next ?_
  | with_reducible refine sx_if ?_
  | with_reducible refine sx_retN ?_
  | with_reducible refine sx_asg ?_
  | with_reducible refine sx_par ?_
  | with_reducible refine gx_name ?_
  | with_reducible refine gxs_cons ?_
  | with_reducible refine gxs_nil ?_
  | with_reducible refine rx_add_int ?_
  | with_reducible refine rx_I0i ?_
  | with_reducible refine rx_I0b ?_
  | with_reducible refine rx_eq_int ?_
  | with_reducible refine rx_ne_int ?_
  | with_reducible refine rx_eq_str ?_
  | with_reducible refine rx_ne_str ?_
  | with_reducible refine rx_eq_bl ?_
  | with_reducible refine rx_ne_bl ?_
  | with_reducible refine lx_tup ?_
  | with_reducible refine lx_lst ?_
  | with_reducible refine cx_len_tup ?_
  | with_reducible refine cx_len_lst ?_
  | with_reducible refine cx_len_frl ?_
  | with_reducible refine cx_max2 ?_
  | with_reducible refine ux_neg ?_
  | with_reducible refine cx_list_lst ?_
  | with_reducible refine cx_tuple_lst ?_
  | with_reducible refine cx_tuple_tup ?_
  | with_reducible refine mx_isdigit ?_
  | with_reducible refine mx_startswith ?_
  | with_reducible refine ix_any ?_
  | with_reducible refine And.intro (Nat.le_of_ble_eq_true rfl) ?_
  | refine Exists.intro _ (And.intro rfl ?_))
local macro_rules | `(tactic| walk_at "w") => `(tactic| repeat (walk_at "w1"))


section
variable {P : Program} {w : World} {K : PySem.W.Frag} {mg : Str → Option Value} {base : Heap} {C WE BP BT NC BJ : Addr}
theorem u65 {k : Nat} {A : Around} (hr : Room k A) : A.units + 65 < cLine := by
  have := hr.un
  omega

abbrev s__law_point : Stmt := top 24
theorem sc__law_point : FnScope ["part", "numbers"] ["part"] (defScope s__law_point) := ⟨rfl, rfl, rfl, by decide +kernel, rfl, by decide +kernel, by decide +kernel⟩

theorem ok__law_point {f : Addr} {fd : FuncData} (F : Fun K "_law_point" "_law_point" s__law_point f fd) (T : Tx K mg C) (c__law_integer : Cal P w K mg base 1 "_law_integer" (spInteger K)) : FnOk P w K mg base CX0 2 f fd ["part"] (spPoint K) := by
  refine F.ok sc__law_point (spD_len (n := 1) (fun x ds M h => by rw [h.1] <;> rfl)) (fun cdv A outer s H vs Q E hr h => ⟨_, (pss_cons (ps_set (i := 1) sc__law_point.nd rfl (Or.inl rfl) (pe_split (pv 0) pe_str)) (pss_cons (ps_if (PW.pt (pw_or (pt_cmpR (op_neA hr.units) (pe_callB call_lenA (by rfl) T.n_len (by decide +kernel) (pa_cons (pv 1) pa_nil)) pe_int (nomark _)) (pw_or (pt_cmpR op_isN (pe_c c__law_integer hr (by decide) rfl (pa_cons (pe_ix ix_seq (pv 1) pe_int (fun _ _ => rfl)) pa_nil)) pe_non (nomark _)) (pw_or1 (pt_cmpR op_isN (pe_c c__law_integer hr (by decide) rfl (pa_cons (pe_ix ix_seq (pv 1) pe_int (fun _ _ => rfl)) pa_nil)) pe_non (nomark _)))))) (pss_one (ps_ret pe_non)) pss_nil) (pss_one (ps_ret (pe_tup (pa_cons (pe_c c__law_integer hr (by decide) rfl (pa_cons (pe_ix ix_seq (pv 1) pe_int (fun _ _ => rfl)) pa_nil)) (pa_cons (pe_c c__law_integer hr (by decide) rfl (pa_cons (pe_ix ix_seq (pv 1) pe_int (fun _ _ => rfl)) pa_nil)) pa_nil))))))), enter h ?_⟩)
  dsimp only [cxOf, Cx.nox, Cx.wish]
  rintro w ds M ⟨rfl, hrd⟩
  obtain ⟨hc1, hc2, hc3⟩ := rd_comma hrd
  refine sx_seq (sx_set (ex_m1 ?_))
  walk_at "w"
  refine ⟨⟨_, rfl⟩, ?_⟩
  walk_at "w"
  refine mx_split (by decide) (Nat.le_trans (m := 302) (by have := hrd.2; omega) (by decide)) ?_
  walk_at "w"
  rw [List.length_map]
  refine ⟨fun h => ⟨fun _ => ?_, fun h => by cases h⟩, fun h => ?_⟩
  · refine sx_ret (ex_non (ret_pure ?_ (Sub.refl _)))
    rw [ptV_len fun z => ?_]
    · rfl
    · rw [z] at h
      exact absurd h (by decide)
  have h2 : (Txt.split w sComma).length = 2 := by
    have z2 := dT (show decide (((Txt.split w sComma).length : Int) = 2) = true by simpa using h)
    omega
  obtain ⟨u, v, huv⟩ : ∃ u v, Txt.split w sComma = [u, v] := by
    match Txt.split w sComma, h2 with
    | [u, v], _ => exact ⟨u, v, rfl⟩
  rw [huv] at hc1 ⊢
  have hu := hc1 u List.mem_cons_self
  have hv := hc1 v (List.mem_cons_of_mem _ List.mem_cons_self)
  have hpt := ptV_two huv
  walk_at "w"
  refine ex_callP ?_
  walk_at "w"
  refine ⟨hu, ?_⟩
  walk_at "w"
  refine rx_isN_oI ?_
  refine ⟨_, rfl, fun h => ⟨fun _ => ?_, fun h => by cases h⟩, fun h => ?_⟩
  · refine sx_ret (ex_non (ret_pure ?_ (Sub.refl _)))
    rw [hpt, dT h] <;> rfl
  walk_at "w"
  refine ex_callP ?_
  walk_at "w"
  refine ⟨hv, ?_⟩
  walk_at "w"
  refine rx_isN_oI ?_
  refine ⟨_, rfl, fun h => ?_, fun h => ?_⟩
  · refine sx_ret (ex_non (ret_pure ?_ (Sub.refl _)))
    rw [hpt, dT h]
    cases numV u <;> rfl
  rename_i h1
  cases e1 : numV u with
  | none => exact absurd e1 (dF h1)
  | some x1 =>
    cases e2 : numV v with
    | none => exact absurd e2 (dF h)
    | some x2 =>
      rw [e1, e2] at hpt
      refine sx_next ?_
      refine sx_ret (ex_tup ?_)
      refine ax_cons (ex_callP ?_)
      walk_at "w"
      refine ⟨hu, ?_⟩
      refine ax_cons (ex_callP ?_)
      walk_at "w"
      refine ⟨hv, ?_⟩
      walk_at "w"
      refine ret_pure ?_ (Sub.refl _)
      rw [hpt, e1, e2] <;> rfl

abbrev s__law_due : Stmt := top 25
theorem sc__law_due : FnScope ["points", "index"] ["points"] (defScope s__law_due) := ⟨rfl, rfl, rfl, by decide +kernel, rfl, by decide +kernel, by decide +kernel⟩

theorem ok_due3 {f : Addr} {fd : FuncData} (F : Fun K "_law_due" "_law_due" s__law_due f fd) (T : Tx K mg C)  : FnOk P w K mg base CX0 1 f fd ["points"] (spDue3 K) := by
  refine F.ok sc__law_due (spD_len (n := 1) (fun x ds M h => by rw [h.1] <;> rfl)) (fun cdv A outer s H vs Q E hr h => ⟨_, (pss_cons (ps_for PassesOwn.never rfl (pi_range1 rfl T.n_range (pa_cons (pe_callB call_lenA (by rfl) T.n_len (by decide +kernel) (pa_cons (pv 0) pa_nil)) pa_nil)) (pg_name (i := 1) sc__law_due.nd rfl (Or.inl rfl)) (pss_one (ps_if (PW.pt (pw_or (pt_cmpR (op_eqA hr.units) (pv 1) pe_int (nomark _)) (pw_or1 (pt_cmpR (op_neA hr.units) (pe_callB call_lenA (by rfl) T.n_len (by decide +kernel) (pa_cons (pe_ix ix_seq (pv 0) (pv 1) (fun _ _ => rfl)) pa_nil)) pe_int (nomark _))))) (pss_one (ps_ret (pe_lst (pa_cons pe_str (pa_cons (pv 1) pa_nil))))) pss_nil))) (pss_one (ps_ret (pe_ifExp (pt_cmpR op_lt (pe_callB call_lenA (by rfl) T.n_len (by decide +kernel) (pa_cons (pv 0) pa_nil)) pe_int (nomark _)) (pe_lst (pa_cons pe_str (pa_cons (pe_callB call_lenA (by rfl) T.n_len (by decide +kernel) (pa_cons (pv 0) pa_nil)) pa_nil))) (pe_callTy call_tuple_of (by rfl) T.n_tuple (by decide +kernel) (pa_cons (pv 0) pa_nil)))))), enter h ?_⟩)
  dsimp only [cxOf, Cx.nox, Cx.wish]
  rintro ts ds M ⟨rfl, h9⟩
  refine sx_seqc (fun ρ' M' => M' = M ∧ (∀ j u, ts[j]? = some u → u.length = 2 ∧ j ≠ 8) ∧ ∃ a, ρ' = [some (Lts ts), a]) (sx_for (ix_rng1 ?_)) ?_
  · walk_at "w"
    rw [List.length_map]
    refine ⟨by omega, by omega, fun i ρ' M' => M' = M ∧ (∀ j u, j < i → ts[j]? = some u → u.length = 2 ∧ j ≠ 8) ∧ ∃ a, ρ' = [some (Lts ts), a], ⟨rfl, fun j u h => absurd h (Nat.not_lt_zero _), _, rfl⟩, fun _ _ _ _ _ => trivial, ?_, ?_⟩
    · rintro i d ρ' M' hi ⟨rfl, hok, a, rfl⟩
      obtain ⟨hlt, rfl⟩ := rng_get hi
      have hlt2 : i < ts.length := by omega
      have ht := List.getElem?_eq_getElem hlt2
      have hT : (ts.map T1)[i]? = some (T1 ts[i]) := by rw [List.getElem?_map, ht] <;> rfl
      have ei : (0 : Int) + (i : Int) = (i : Int) := by omega
      rw [ei]
      have bad : (ts[i].length ≠ 2 ∨ i = 8) → trD (polyF ts) = .lst [.str sPolygon, .int (i : Nat)] := fun hb => by
        rw [poly_bad (badP_at hok ht hb)]
        rfl
      walk_at "w"
      refine ⟨fun h => ?_, fun h => ?_⟩
      · have h8 := dT h
        refine ⟨fun _ => ?_, fun h => by cases h⟩
        refine sx_ret (ex_lst ?_)
        walk_at "w"
        exact ret_pure (bad (.inr (by omega))).symm (Sub.refl _)
      · have h8 := dF h
        walk_at "w"
        refine rx_ix_lst (atI_at hT) ?_
        walk_at "w"
        rw [List.length_map]
        refine ⟨fun h => ?_, fun h => ?_⟩
        · have h2 : ts[i].length ≠ 2 := fun z => by
            rw [z] at h
            exact absurd h (by decide)
          refine sx_ret (ex_lst ?_)
          walk_at "w"
          exact ret_pure (bad (.inl h2)).symm (Sub.refl _)
        · have h2 : ts[i].length = 2 := by
            have z2 := dT (show decide ((ts[i].length : Int) = 2) = true by simpa using h)
            omega
          refine sx_next ⟨rfl, fun j u hj hu => ?_, _, rfl⟩
          by_cases hc : j = i
          · subst hc
            rw [ht] at hu
            cases hu
            exact ⟨h2, by omega⟩
          · exact hok j u (by omega) hu
    · rintro ρ' M' ⟨rfl, hok, a, rfl⟩
      rw [rng_len] at hok
      exact ⟨rfl, fun j u hu => hok j u (by have := (List.getElem?_eq_some_iff.mp hu).1; omega) hu, _, rfl⟩
  rintro ρ' M' ⟨rfl, hok, a, rfl⟩
  refine sx_ret (ex_if ?_)
  walk_at "w"
  rw [List.length_map]
  refine ⟨fun h => ?_, fun h => ?_⟩
  · have h3 := dT h
    refine ex_lst ?_
    walk_at "w"
    rw [List.length_map]
    refine ret_pure ?_ (Sub.refl _)
    rw [poly_bad (badP_few hok (by omega))]
    rfl
  · have h3 := dF h
    obtain ⟨qs, hq1, hq2⟩ := poly_of (C := 0) (badP_good hok (by omega))
    refine ex_cb ?_
    walk_at "w"
    refine ret_pure ?_ (Sub.refl _)
    rw [hq1]
    have z := hq2
    injection z with _ z
    injection z with z _
    injection z with _ z

abbrev s__law_due_text : Stmt := top 26
theorem sc__law_due_text : FnScope ["text", "points", "part"] ["text"] (defScope s__law_due_text) := ⟨rfl, rfl, rfl, by decide +kernel, rfl, by decide +kernel, by decide +kernel⟩

theorem ok__law_due_text {f : Addr} {fd : FuncData} (F : Fun K "_law_due_text" "_law_due_text" s__law_due_text f fd) (T : Tx K mg C) (c__law_point : Cal P w K mg base 2 "_law_point" (spPoint K)) (c_due3 : Cal P w K mg base 1 "_law_due" (spDue3 K)) : FnOk P w K mg base CX0 3 f fd ["text"] (spDueT K) := by
  refine F.ok sc__law_due_text (spD_len (n := 1) (fun x ds M h => by rw [h.1] <;> rfl)) (fun cdv A outer s H vs Q E hr h => ⟨_, (pss_cons (ps_setLc (i := 1) (own := [("part", 2)]) rfl sc__law_due_text.nd rfl rfl (sw_true rfl rfl rfl (by decide +kernel)) (pi_any (pe_split (pv 0) pe_str)) (blkOk_by (own := [("part", 2)]) (N := ["text", "points", "part"]) (sc := defScope s__law_due_text) (by decide +kernel)) (fun _ _ _ _ _ => (pg_name (i := 2) sc__law_due_text.nd rfl (Or.inl rfl))) (fun _ _ _ _ _ => pts_nil) (fun _ _ _ _ _ => (pe_c c__law_point hr (by decide) rfl (pa_cons (pv 2) pa_nil)))) (pss_one (ps_ret (pe_ifExp (pt_cmpR (op_inD (u65 hr)) pe_non (pv 1) (by rfl)) (pe_lst (pa_cons pe_str (pa_cons (pe_bm PySem.F.plainAttrs_list PySem.F.slot_list_index PySem.F.type_list_index (mt_indexD (u65 hr)) (pv 1) (pa_cons pe_non pa_nil)) pa_nil))) (pe_c c_due3 hr (by decide) rfl (pa_cons (pv 1) pa_nil)))))), enter h ?_⟩)
  dsimp only [cxOf, Cx.nox, Cx.wish]
  rintro w ds M ⟨rfl, hrd⟩
  obtain ⟨hb1, hb2, hb3⟩ := rd_blank hrd
  refine sx_seq (sx_set (ex_lcm (by exact gw_name (by decide)) (ix_any (ex_m1 ?_))))
  walk_at "w"
  refine ⟨⟨_, rfl⟩, ?_⟩
  walk_at "w"
  refine mx_split (by decide) (Nat.le_trans (m := 302) (by have := hrd.2; omega) (by decide)) ?_
  refine ⟨_, _, .inl ⟨.inl rfl, rfl⟩, ?_, trivial, (rdV w).map oP, ?_, ?_, ?_⟩
  · rw [List.length_map]
    exact Nat.lt_of_le_of_lt hb2 (by decide)
  · unfold rdV
    rw [List.length_map, List.length_map, List.length_map]
  · intro i d z hi hz
    rw [List.getElem?_map] at hi
    obtain ⟨p, hp, rfl⟩ := Option.map_eq_some_iff.mp hi
    rw [List.getElem?_map, rdV_get hp] at hz
    cases hz
    walk_at "w"
    refine ex_callP ?_
    walk_at "w"
    exact ⟨hb1 p (List.mem_of_getElem? hp), rfl, rfl⟩
  refine sx_ret (ex_if ?_)
  walk_at "w"
  refine rx_inD rfl (plain_oP _) ?_
  rw [any_oP]
  refine ⟨_, rfl, fun h => ?_, fun h => ?_⟩
  · obtain ⟨i, hi⟩ := Option.isSome_iff_exists.mp h
    obtain ⟨f1, f2⟩ := badWs_first hi
    refine ex_lst ?_
    walk_at "w"
    refine ex_indexD (x := .non) (xs := (rdV w).map oP) (j := i) (z := toP .non) rfl (plain_oP _) ?_ (by rw [toP]; rfl) (fun m z' hm hz => ?_) ?_
    · rw [toPs_get, List.getElem?_map, f1] <;> rfl
    · rw [toPs_get, List.getElem?_map] at hz
      obtain ⟨d, hd, rfl⟩ := Option.map_eq_some_iff.mp hz
      obtain ⟨o, ho, rfl⟩ := Option.map_eq_some_iff.mp hd
      rw [eqv_oP]
      exact decide_eq_false (f2 m o hm ho)
    · walk_at "w"
      refine ⟨rfl, ?_⟩
      walk_at "w"
      refine ⟨rfl, ?_⟩
      walk_at "w"
      refine ret_pure ?_ (Sub.refl _)
      unfold textF
      rw [hi] <;> rfl
  · have hn : badWs (rdV w) = none := by
      cases e : badWs (rdV w) with
      | none => rfl
      | some i =>
        rw [e] at h
        cases h
    obtain ⟨ps, hps⟩ := badWs_none.mp hn
    have e : (rdV w).map oP = (ps.map l2).map T1 := by
      rw [hps, List.map_map, List.map_map]
      rfl
    have hl : ps.length ≤ 301 := by
      have q := congrArg List.length hps
      unfold rdV at q
      rw [List.length_map, List.length_map] at q
      have : (Txt.split w sBlank).length ≤ 301 := hb2
      omega
    rw [e]
    refine ex_callP ?_
    walk_at "w"
    refine ⟨by rw [List.length_map]; omega, ?_⟩
    refine ret_pure ?_ (Sub.refl _)
    rw [textF_some hps]

end
end Wk
/-! ## P56 -/
namespace Wk
open PySem L2 Evl
local macro_rules | `(tactic| walk_at "w1") => `(tactic| first
  | ((with_reducible refine' ex_var ?hv ?_); (case hv => rfl))
  | ((with_reducible refine' rx_ix_tup ?hv ?_); (case hv => rfl))
  | ((with_reducible refine' rx_ix_lst ?hv ?_); (case hv => rfl))
  | ((with_reducible refine' gx_tup ?hv ?_); (case hv => rfl))
  | ((with_reducible refine' rx_ix_cell ?hm ?hv ?_); (case hm => first | assumption | exact put_same); (case hv => rfl))
  | ((with_reducible refine' cx_len_cell ?hm ?_); (case hm => first | assumption | exact put_same))
  | ((with_reducible refine' rx_Ii ?hc ?_); (case hc => first | assumption | exact ⟨by decide, by decide +kernel⟩ | (show (0 : Int) < _; omega) | (show (0 : Int) < _; decide)))
  | ((with_reducible refine' rx_mul_int ?hc ?_); (case hc => first | assumption | exact cmul_l (by decide) (by decide) | exact cmul_r (by decide) (by decide)))
  | with_reducible refine ex_int ?_
  | with_reducible refine ex_str ?_
  | with_reducible refine ex_bl ?_
  | with_reducible refine ex_non ?_
  | with_reducible refine ex_raw ?_
  | with_reducible refine ex_op ?_
  | with_reducible refine ex_un ?_
  | with_reducible refine ex_cb ?_
  | with_reducible refine ex_tup ?_
  | with_reducible refine ex_sl ?_
  | with_reducible refine ox_none ?_
  | with_reducible refine ox_some ?_
  | with_reducible refine ax_nil ?_
  | with_reducible refine ax_cons ?_
  | with_reducible refine ex_if ?_
  | with_reducible refine ex_andV ?_
  | with_reducible refine ex_orV ?_
  | with_reducible refine ex_notV ?_
  | with_reducible refine ex_m0 ?_
  | with_reducible refine ex_m1 ?_
  | with_reducible refine tx_test ?_
  | with_reducible refine tx_B ?_
  | with_reducible refine tx_and ?_
  | with_reducible refine tx_or ?_
  | with_reducible refine tx_not ?_
  | with_reducible refine tx_yes ?_
  | with_reducible refine sx_seq ?_
  | with_reducible refine sx_set ?_
  | with_reducible refine sx_ret ?_
  | with_reducible refine sx_drop ?_
  | with_reducible refine sx_next ?_
  | with_reducible refine sx_if ?_
  | with_reducible refine sx_retN ?_
  | with_reducible refine sx_asg ?_
  | with_reducible refine sx_par ?_
  | with_reducible refine gx_name ?_
  | with_reducible refine gxs_cons ?_
  | with_reducible refine gxs_nil ?_
  | with_reducible refine rx_add_int ?_
  | with_reducible refine rx_I0i ?_
  | with_reducible refine rx_I0b ?_
  | with_reducible refine rx_eq_int ?_
  | with_reducible refine rx_ne_int ?_
  | with_reducible refine rx_eq_str ?_
  | with_reducible refine rx_ne_str ?_
  | with_reducible refine rx_eq_bl ?_
  | with_reducible refine rx_ne_bl ?_
  | with_reducible refine lx_tup ?_
  | with_reducible refine lx_lst ?_
  | with_reducible refine cx_len_tup ?_
  | with_reducible refine cx_len_lst ?_
  | with_reducible refine cx_len_frl ?_
  | with_reducible refine cx_max2 ?_
  | with_reducible refine ux_neg ?_
  | with_reducible refine cx_list_lst ?_
  | with_reducible refine cx_tuple_lst ?_
  | with_reducible refine cx_tuple_tup ?_
  | with_reducible refine mx_isdigit ?_
  | with_reducible refine mx_startswith ?_
  | with_reducible refine ix_any ?_
  | with_reducible refine And.intro (Nat.le_of_ble_eq_true rfl) ?_
  | refine Exists.intro _ (And.intro rfl ?_))
local macro_rules | `(tactic| walk_at "w") => `(tactic| repeat (walk_at "w1"))


section
variable {P : Program} {w : World} {K : PySem.W.Frag} {mg : Str → Option Value} {base : Heap} {C WE BP BT NC BJ : Addr}

abbrev s__law_told : Stmt := top 27
theorem sc__law_told : FnScope ["thing", "way", "found", "e"] ["thing", "way"] (defScope s__law_told) := ⟨rfl, rfl, rfl, by decide +kernel, rfl, by decide +kernel, by decide +kernel⟩

theorem ok_told3 {f : Addr} {fd : FuncData} (F : Fun K "_law_told" "_law_told" s__law_told f fd) (T : Tx K mg C) (XT : XT3 P K mg WE BP BT NC BJ) (c_parseX : CmtX P w K mg base 6 C "parse" (spParseX K C BP BT)) (c__law_tried : CalX P w K mg base 6 "_law_tried" (spTried K C BP)) : FnOk P w K mg base CX0 7 f fd ["thing", "way"] (spTold3 K) := by
  refine F.ok sc__law_told (spD_len (n := 2) (fun x ds M h => by rw [h.1]; cases x <;> rfl)) (fun cdv A outer s H vs Q E hr h => ⟨_, (pss_cons (ps_tryA (i := 3) (tb := fun W => (tAsg (tIf (tTest (tOp (rEqA K) (tVar 1) (tC (.int 1)))) (tFld K (ClX.tCMeth C (spParseX K C BP BT) (EW 4 W) (tC (.ref C)) (tCons (tVar 0) tNil)) "points") (tFld K (tCall (spTried K C BP) [] (EW 4 W) (tCons (tVar 0) tNil)) "points")) (gName 2))) (ts := fun a cls d => (tSeq (tAsg (tLst (tCons (tC (.str "other")) (tCons (tC (.int 0)) tNil))) (gName 2)) (tSeq (tIfS (tAnd (tTest (tCB (rIsX K cls d a) (tCons (tVar 3) (tCons (tC (.ref BP)) tNil)))) (tNot (tTest (tCB (rIsX K cls d a) (tCons (tVar 3) (tCons (tTup (tCons (tC (.ref BJ)) (tCons (tC (.ref BT)) (tCons (tC (.ref NC)) tNil)))) tNil)))))) (tAsg (tLst (tCons (tC (.str "polygon")) (tCons (tXfA K a cls d "index" (tVar 3)) tNil))) (gName 2)) tNext) (tIfS (tAnd (tTest (tCB (rIsX K cls d a) (tCons (tVar 3) (tCons (tC (.ref BT)) tNil)))) (tNot (tTest (tCB (rIsX K cls d a) (tCons (tVar 3) (tCons (tTup (tCons (tC (.ref BJ)) (tCons (tC (.ref BP)) (tCons (tC (.ref NC)) tNil)))) tNil)))))) (tAsg (tLst (tCons (tC (.str "text")) (tCons (tXfA K a cls d "index" (tVar 3)) tNil))) (gName 2)) tNext)))) rfl rfl sc__law_told.nd rfl rfl rfl (by decide) XT.m_WE (fun W pn xe tk po => (pss_one (ps_set (i := 2) sc__law_told.nd rfl (Or.inl rfl) (pe_ifExp (pt_cmpR (op_eqA hr.units) (pv 1) pe_int (nomark _)) (pe_fld (pe_cmX c_parseX (pW (n := 4) rfl tk) hr (by decide) (pe_glob (v := .ref C) rfl T.m_Polygon rfl) (pa_cons (pv 0) pa_nil)) rfl) (pe_fld (pe_cX c__law_tried (pW (n := 4) rfl tk) hr (by decide) rfl (pa_cons (pv 0) pa_nil)) rfl))))) (fun a oe cls d pn hz hf => (pss_cons (ps_set (i := 2) sc__law_told.nd rfl (Or.inl rfl) (pe_lst (pa_cons pe_str (pa_cons pe_int pa_nil)))) (pss_cons (ps_if (PW.pt (pw_and (pt_val (pe_callB (call_isX hz hf) (by rfl) T.n_isinstance (by decide +kernel) (pa_cons (pv 3) (pa_cons (pe_glob (v := .ref BP) rfl XT.eP.sup.gl rfl) pa_nil)))) (pw_and1 (pt_not (pt_val (pe_callB (call_isX hz hf) (by rfl) T.n_isinstance (by decide +kernel) (pa_cons (pv 3) (pa_cons (pe_tup (pa_cons (pe_glob (v := .ref BJ) rfl XT.m_BJ rfl) (pa_cons (pe_glob (v := .ref BT) rfl XT.eT.sup.gl rfl) (pa_cons (pe_glob (v := .ref NC) rfl XT.m_NC rfl) pa_nil)))) pa_nil)))))))) (pss_one (ps_set (i := 2) sc__law_told.nd rfl (Or.inl rfl) (pe_lst (pa_cons pe_str (pa_cons (pe_xfA hz hf (pv 3) rfl) pa_nil))))) pss_nil) (pss_one (ps_if (PW.pt (pw_and (pt_val (pe_callB (call_isX hz hf) (by rfl) T.n_isinstance (by decide +kernel) (pa_cons (pv 3) (pa_cons (pe_glob (v := .ref BT) rfl XT.eT.sup.gl rfl) pa_nil)))) (pw_and1 (pt_not (pt_val (pe_callB (call_isX hz hf) (by rfl) T.n_isinstance (by decide +kernel) (pa_cons (pv 3) (pa_cons (pe_tup (pa_cons (pe_glob (v := .ref BJ) rfl XT.m_BJ rfl) (pa_cons (pe_glob (v := .ref BP) rfl XT.eP.sup.gl rfl) (pa_cons (pe_glob (v := .ref NC) rfl XT.m_NC rfl) pa_nil)))) pa_nil)))))))) (pss_one (ps_set (i := 2) sc__law_told.nd rfl (Or.inl rfl) (pe_lst (pa_cons pe_str (pa_cons (pe_xfA hz hf (pv 3) rfl) pa_nil))))) pss_nil)))))) (pss_one (ps_ret (pv 2)))), enter h ?_⟩)
  dsimp only [cxOf, Cx.nox, Cx.wish]
  rintro x ds M ⟨rfl, hok⟩
  refine sx_seqc (fun ρ' M' => M' = M ∧ ∃ a b c, ρ' = [a, b, some (trD (valT x)), c]) (sx_try (n := 4) (fun C' gs M' => M' = M ∧ ((C' = BT ∧ ∃ i : Nat, valT x = .text i ∧ gs = [(sIndex, .int i)]) ∨ (C' = BP ∧ ∃ i : Nat, valT x = .bad i ∧ gs = [(sIndex, .int i)]))) (fun W => ?_) ?_) ?_
  · cases x with
    | inl ts =>
      refine sy_set (ey_if ?_)
      walk_at "w"
      refine ⟨fun h => absurd (dT h) (by decide), fun _ => ?_⟩
      refine ey_fld (ey_call ?_)
      walk_at "w"
      refine ⟨ts, ⟨rfl, hok⟩, ?_, fun C' gs M3 h => ?_⟩
      · rintro d M3 ⟨ps, hf, rfl, rfl⟩
        have eD : Pts ps = trD (valT (.inl ts)) := by
          show Pts ps = trD (polyF ts)
          rw [hf] <;> rfl
        refine ⟨C, _, Pts ps, rfl, T.cl, T.nP, rfl, rfl, some (Lts ts), some (.int 0), none, ?_⟩
        rw [← eD] <;> rfl
      · obtain ⟨rfl, rfl, i, hi, rfl⟩ := h
        exact ⟨rfl, .inr ⟨rfl, i, hi, rfl⟩⟩
    | inr w =>
      refine sy_set (ey_if ?_)
      walk_at "w"
      refine ⟨fun _ => ?_, fun h => absurd rfl (dF h)⟩
      refine ey_fld (ey_cmeth ?_)
      walk_at "w"
      refine ⟨rfl, ?_⟩
      walk_at "w"
      refine ⟨w, ⟨rfl, hok⟩, ?_, fun C' gs M3 h => h⟩
      rintro d M3 ⟨ps, hf, rfl, rfl⟩
      have eD : Pts ps = trD (valT (.inr w)) := by
        show Pts ps = trD (textF w)
        rw [hf] <;> rfl
      refine ⟨C, _, Pts ps, rfl, T.cl, T.nP, rfl, rfl, some (.str w), some (.int 1), none, ?_⟩
      rw [← eD] <;> rfl
  · rintro C' gs M' ⟨rfl, hx⟩
    rcases hx with ⟨rfl, i, hf, rfl⟩ | ⟨rfl, i, hf, rfl⟩
    · have eD : (Dt.lst [.str sText, .int (i : Nat)]) = trD (valT x) := by
        rw [hf] <;> rfl
      refine ⟨XT.eT.x, fun a dd => ?_⟩
      refine sx_seq (sx_set (ex_lst ?_))
      walk_at "w"
      refine cx_isX XT.eT.k XT.TP ?_
      walk_at "w"
      refine ⟨(fun h => by cases h), fun _ => ?_⟩
      refine ⟨(fun h => by cases h), fun _ => ?_⟩
      refine sx_next ?_
      walk_at "w"
      refine cx_isX XT.eT.k kit_self ?_
      walk_at "w"
      refine ⟨fun _ => ?_, fun h => by cases h⟩
      walk_at "w"
      refine cx_isXT [BJ, BP, NC] rfl XT.eT.k (kitAny3 XT.TJ XT.TP XT.TN) ?_
      walk_at "w"
      refine ⟨fun _ => ?_, fun h => by cases h⟩
      refine sx_set (ex_lst ?_)
      walk_at "w"
      refine ex_xfA (gs := [(sIndex, .int (i : Nat))]) XT.eT.k.xf XT.eT.f ?_
      walk_at "w"
      refine ⟨_, rfl, rfl, ?_⟩
      walk_at "w"
      refine ⟨rfl, none, none, none, ?_⟩
      rw [← eD] <;> rfl
    · have eD : (Dt.lst [.str sPolygon, .int (i : Nat)]) = trD (valT x) := by
        rw [hf] <;> rfl
      refine ⟨XT.eP.x, fun a dd => ?_⟩
      refine sx_seq (sx_set (ex_lst ?_))
      walk_at "w"
      refine cx_isX XT.eP.k kit_self ?_
      walk_at "w"
      refine ⟨fun _ => ?_, fun h => by cases h⟩
      walk_at "w"
      refine cx_isXT [BJ, BT, NC] rfl XT.eP.k (kitAny3 XT.PJ XT.PT XT.PN) ?_
      walk_at "w"
      refine ⟨fun _ => ?_, fun h => by cases h⟩
      refine sx_set (ex_lst ?_)
      walk_at "w"
      refine ex_xfA (gs := [(sIndex, .int (i : Nat))]) XT.eP.k.xf XT.eP.f ?_
      walk_at "w"
      refine ⟨_, rfl, rfl, ?_⟩
      walk_at "w"
      refine cx_isX XT.eP.k XT.PT ?_
      walk_at "w"
      refine ⟨(fun h => by cases h), fun _ => ?_⟩
      refine ⟨(fun h => by cases h), fun _ => ?_⟩
      refine sx_next ⟨rfl, none, none, none, ?_⟩
      rw [← eD] <;> rfl
  · rintro ρ' M' ⟨rfl, a, b, c, rfl⟩
    walk_at "w"
    exact ret_pure rfl (Sub.refl _)

end
end Wk
/-! ## P57 -/
namespace Wk
open PySem L2 Evl
local macro_rules | `(tactic| walk_at "w1") => `(tactic| first
  | ((with_reducible refine' ex_var ?hv ?_); (case hv => rfl))
  | ((with_reducible refine' rx_ix_tup ?hv ?_); (case hv => rfl))
  | ((with_reducible refine' rx_ix_lst ?hv ?_); (case hv => rfl))
  | ((with_reducible refine' gx_tup ?hv ?_); (case hv => rfl))
  | ((with_reducible refine' rx_ix_cell ?hm ?hv ?_); (case hm => first | assumption | exact put_same); (case hv => rfl))
  | ((with_reducible refine' cx_len_cell ?hm ?_); (case hm => first | assumption | exact put_same))
  | ((with_reducible refine' rx_Ii ?hc ?_); (case hc => first | assumption | exact ⟨by decide, by decide +kernel⟩ | (show (0 : Int) < _; omega) | (show (0 : Int) < _; decide)))
  | ((with_reducible refine' rx_mul_int ?hc ?_); (case hc => first | assumption | exact cmul_l (by decide) (by decide) | exact cmul_r (by decide) (by decide)))
  | with_reducible refine ex_int ?_
  | with_reducible refine ex_str ?_
  | with_reducible refine ex_bl ?_
  | with_reducible refine ex_non ?_
  | with_reducible refine ex_raw ?_
  | with_reducible refine ex_op ?_
  | with_reducible refine ex_un ?_
  | with_reducible refine ex_cb ?_
  | with_reducible refine ex_tup ?_
  | with_reducible refine ex_sl ?_
  | with_reducible refine ox_none ?_
  | with_reducible refine ox_some ?_
  | with_reducible refine ax_nil ?_
  | with_reducible refine ax_cons ?_
  | with_reducible refine ex_if ?_
  | with_reducible refine ex_andV ?_
  | with_reducible refine ex_orV ?_
  | with_reducible refine ex_notV ?_
  | with_reducible refine ex_m0 ?_
  | with_reducible refine ex_m1 ?_
  | with_reducible refine tx_test ?_
  | with_reducible refine tx_B ?_
  | with_reducible refine tx_and ?_
  | with_reducible refine tx_or ?_
  | with_reducible refine tx_not ?_
  | with_reducible refine tx_yes ?_
  | with_reducible refine sx_seq ?_
  | with_reducible refine sx_set ?_
  | with_reducible refine sx_ret ?_
  | with_reducible refine sx_drop ?_
  | with_reducible refine sx_next ?_
  | with_reducible refine sx_if ?_
  | with_reducible refine sx_retN ?_
  | with_reducible refine sx_asg ?_
  | with_reducible refine sx_par ?_
  | with_reducible refine gx_name ?_
  | with_reducible refine gxs_cons ?_
  | with_reducible refine gxs_nil ?_
  | with_reducible refine rx_add_int ?_
  | with_reducible refine rx_I0i ?_
  | with_reducible refine rx_I0b ?_
  | with_reducible refine rx_eq_int ?_
  | with_reducible refine rx_ne_int ?_
  | with_reducible refine rx_eq_str ?_
  | with_reducible refine rx_ne_str ?_
  | with_reducible refine rx_eq_bl ?_
  | with_reducible refine rx_ne_bl ?_
  | with_reducible refine lx_tup ?_
  | with_reducible refine lx_lst ?_
  | with_reducible refine cx_len_tup ?_
  | with_reducible refine cx_len_lst ?_
  | with_reducible refine cx_len_frl ?_
  | with_reducible refine cx_max2 ?_
  | with_reducible refine ux_neg ?_
  | with_reducible refine cx_list_lst ?_
  | with_reducible refine cx_tuple_lst ?_
  | with_reducible refine cx_tuple_tup ?_
  | with_reducible refine mx_isdigit ?_
  | with_reducible refine mx_startswith ?_
  | with_reducible refine ix_any ?_
  | with_reducible refine And.intro (Nat.le_of_ble_eq_true rfl) ?_
  | refine Exists.intro _ (And.intro rfl ?_))
local macro_rules | `(tactic| walk_at "w") => `(tactic| repeat (walk_at "w1"))


section
variable {P : Program} {w : World} {K : PySem.W.Frag} {mg : Str → Option Value} {base : Heap} {C WE BP BT NC BJ : Addr}
theorem rx_add_lstE {K : PySem.W.Frag} {M : Mm} {Φ : Dt → Mm → Prop} {xs ys zs : List Dt} (hl : xs.length + ys.length ≤ sizeLine) (e : xs ++ ys = zs) (k : Φ (.lst zs) M) : RX K (rAddA K) (.lst xs) (.lst ys) M Φ := rx_add_lst hl (by rw [e]; exact k)
theorem atI_strs {xs : List Str} {q : Int} (h0 : 0 ≤ q) (h1 : q < ((xs.map Dt.str).length : Int)) : ∃ s, atI (xs.map Dt.str) q = some (.str s) ∧ s ∈ xs := by
  obtain ⟨k, rfl⟩ := Int.eq_ofNat_of_zero_le h0
  rw [List.length_map] at h1
  have hk : k < xs.length := by omega
  exact ⟨xs[k], atI_at (by rw [List.getElem?_map, List.getElem?_eq_getElem hk] <;> rfl), List.getElem_mem hk⟩
theorem cx_min2 {K : PySem.W.Frag} {M : Mm} {Φ : Dt → Mm → Prop} {i j : Int} (k : Φ (.int (if j < i then j else i)) M) : CX K (fun xs H Q => ∃ i j, xs = [.int i, .int j] ∧ Q (.int (if j < i then j else i)) H) [.int i, .int j] M Φ := fun B H H1 vs o r Q q => by
  cases r with
  | cons r rr =>
    cases rr with
    | cons r2 rr =>
      cases rr
      exact ⟨i, j, by rw [r.int_inv, r2.int_inv], q _ _ M H H1 k o (Ex.refl H) (.int _)⟩

abbrev s_law : Stmt := top 28
theorem sc_law : FnScope ["script", "index", "source", "points", "place", "size", "pairs", "case", "parts", "odd", "once", "twice", "text", "number", "point", "x", "y"] ["script"] (defScope s_law) := ⟨rfl, rfl, rfl, by decide +kernel, rfl, by decide +kernel, by decide +kernel⟩

theorem b_law : BindP "law" "law" s_law ["script"] := fun _ _ _ _ _ _ us hl => match us, hl with | [_], _ => rfl
theorem ok_law {f : Addr} {fd : FuncData} (F : Fun K "law" "law" s_law f fd) (T : Tx K mg C) (c__law_source : Cal P w K mg base 1 "_law_source" (spSource K)) (c__law_draw : Cal P w K mg base 1 "_law_draw" (spDraw K)) (c_told3 : Cal P w K mg base 7 "_law_told" (spTold3 K)) (c_due3 : Cal P w K mg base 1 "_law_due" (spDue3 K)) (c__law_due_text : Cal P w K mg base 3 "_law_due_text" (spDueT K)) : FnG P w K mg base CX0 8 f (spLaw K) := by
  refine fun_okG F sc_law b_law (spD_len (n := 1) (fun x ds M h => by rw [h.1] <;> rfl)) (fun cdv A outer s H vs Q E hr hg h => ⟨_, (pss_cons (ps_for PassesOwn.never rfl (pi_range1 rfl T.n_range (pa_cons (pe_callB (call_max2 rfl) (by rfl) T.n_max (by decide +kernel) (pa_cons pe_int (pa_cons (pe_callB (call_min2 rfl) (by rfl) T.n_min (by decide +kernel) (pa_cons pe_int (pa_cons (pe_callB call_lenA (by rfl) T.n_len (by decide +kernel) (pa_cons (pv 0) pa_nil)) pa_nil))) pa_nil))) pa_nil)) (pg_name (i := 1) sc_law.nd rfl (Or.inl rfl)) (pss_cons (ps_set (i := 2) sc_law.nd rfl (Or.inr rfl) (pe_c c__law_source hr (by decide) rfl (pa_cons (pv 0) (pa_cons (pv 1) pa_nil)))) (pss_cons (ps_set (i := 3) sc_law.nd rfl (Or.inl rfl) (pe_lst pa_nil)) (pss_cons (ps_for PassesOwn.never rfl (pi_range1 rfl T.n_range (pa_cons (pe_c c__law_draw hr (by decide) rfl (pa_cons (pv 2) (pa_cons pe_int pa_nil))) pa_nil)) (pg_name (i := 4) sc_law.nd rfl (Or.inl rfl)) (pss_cons (ps_set (i := 5) sc_law.nd rfl (Or.inl rfl) (pe_ix ix_seq (pe_lst (pa_cons pe_int (pa_cons pe_int (pa_cons pe_int (pa_cons pe_int (pa_cons pe_int (pa_cons pe_int (pa_cons pe_int (pa_cons pe_int (pa_cons pe_int (pa_cons pe_int pa_nil))))))))))) (pe_c c__law_draw hr (by decide) rfl (pa_cons (pv 2) (pa_cons pe_int pa_nil))) (fun _ _ => rfl))) (pss_one (ps_expr (pe_bm PySem.F.plainAttrs_list PySem.F.slot_list_append PySem.F.type_list_append mt_append (pv 3) (pa_cons (pe_callTy call_tuple_of (by rfl) T.n_tuple (by decide +kernel) (pa_cons (pe_lc (own := [("number", 13)]) rfl sc_law.nd (pi_range1 rfl T.n_range (pa_cons (pv 5) pa_nil)) (blkOk_by (own := [("number", 13)]) (N := ["script", "index", "source", "points", "place", "size", "pairs", "case", "parts", "odd", "once", "twice", "text", "number", "point", "x", "y"]) (sc := defScope s_law) (by decide +kernel)) (fun _ _ _ _ _ => (pg_name (i := 13) sc_law.nd rfl (Or.inl rfl))) (fun _ _ _ _ _ => pts_nil) (fun _ _ _ _ _ => (pe_op op_sub (pe_c c__law_draw hr (by decide) rfl (pa_cons (pv 2) (pa_cons pe_int pa_nil))) pe_int))) pa_nil)) pa_nil)))))) (pss_cons (ps_setLc (i := 6) (own := [("point", 14)]) rfl sc_law.nd rfl rfl (sw_true rfl rfl rfl (by decide +kernel)) (pi_any (pv 3)) (blkOk_by (own := [("point", 14)]) (N := ["script", "index", "source", "points", "place", "size", "pairs", "case", "parts", "odd", "once", "twice", "text", "number", "point", "x", "y"]) (sc := defScope s_law) (by decide +kernel)) (fun _ _ _ _ _ => (pg_name (i := 14) sc_law.nd rfl (Or.inl rfl))) (fun _ _ _ _ _ => pts_nil) (fun _ _ _ _ _ => (pe_slice (sl_anyK K (by rfl)) (pe_op (op_addK K (by rfl)) (pv 14) (pe_tup (pa_cons pe_int (pa_cons (pe_un un_neg pe_int) pa_nil)))) po_none (po_some pe_int)))) (pss_cons (ps_for PassesOwn.never rfl (pi_any (pe_tup (pa_cons (pv 3) (pa_cons (pv 6) pa_nil)))) (pg_name (i := 7) sc_law.nd rfl (Or.inl rfl)) (pss_one (ps_if (pt_cmpR (op_neA hr.units) (pe_callB (call_reprD hr hg) (by rfl) T.n_repr (by decide +kernel) (pa_cons (pe_c c_told3 hr (by decide) rfl (pa_cons (pv 7) (pa_cons pe_int pa_nil))) pa_nil)) (pe_callB (call_reprD hr hg) (by rfl) T.n_repr (by decide +kernel) (pa_cons (pe_c c_due3 hr (by decide) rfl (pa_cons (pv 7) pa_nil)) pa_nil)) (nomark _)) (pss_one (ps_ret pe_bl)) pss_nil))) (pss_cons (ps_set (i := 8) sc_law.nd rfl (Or.inl rfl) (pe_op op_addA (pe_lc (own := [("x", 15), ("y", 16)]) rfl sc_law.nd (pi_any (pv 6)) (blkOk_by (own := [("x", 15), ("y", 16)]) (N := ["script", "index", "source", "points", "place", "size", "pairs", "case", "parts", "odd", "once", "twice", "text", "number", "point", "x", "y"]) (sc := defScope s_law) (by decide +kernel)) (fun _ _ _ _ _ => (pg_tupK K 2 (by rfl) (pgs_cons (pg_name (i := 15) sc_law.nd rfl (Or.inl rfl)) (pgs_cons (pg_name (i := 16) sc_law.nd rfl (Or.inl rfl)) pgs_nil)) (by rfl))) (fun _ _ _ _ _ => pts_nil) (fun _ _ _ _ _ => (pe_op (op_addK K (by rfl)) (pe_op (op_addK K (by rfl)) (pe_callTy call_str_int (by rfl) T.n_str (by decide +kernel) (pa_cons (pv 15) pa_nil)) pe_str) (pe_callTy call_str_int (by rfl) T.n_str (by decide +kernel) (pa_cons (pv 16) pa_nil))))) (pe_lst (pa_cons (pe_op op_addA (pe_op op_addA (pe_callTy call_str_int (by rfl) T.n_str (by decide +kernel) (pa_cons (pe_op op_powW pe_int pe_int) pa_nil)) pe_str) (pe_callTy call_str_int (by rfl) T.n_str (by decide +kernel) (pa_cons (pe_un un_neg (pe_op op_powW pe_int pe_int)) pa_nil))) pa_nil)))) (pss_cons (ps_set (i := 9) sc_law.nd rfl (Or.inl rfl) (pe_lst (pa_cons pe_str (pa_cons pe_str (pa_cons pe_str (pa_cons pe_str (pa_cons pe_str (pa_cons pe_str (pa_cons pe_str (pa_cons pe_str (pa_cons pe_str (pa_cons pe_str (pa_cons pe_str (pa_cons pe_str (pa_cons pe_str pa_nil))))))))))))))) (pss_cons (ps_set (i := 9) sc_law.nd rfl (Or.inl rfl) (pe_op op_addA (pv 9) (pe_lst (pa_cons pe_str (pa_cons pe_str (pa_cons pe_str (pa_cons pe_str (pa_cons pe_str (pa_cons pe_str (pa_cons pe_str (pa_cons pe_str (pa_cons pe_str (pa_cons pe_str (pa_cons pe_str pa_nil)))))))))))))) (pss_cons (ps_set (i := 10) sc_law.nd rfl (Or.inl rfl) (pe_callTy call_list_of (by rfl) T.n_list (by decide +kernel) (pa_cons (pv 8) pa_nil))) (pss_cons (ps_asg (pe_ix ix_seq (pv 9) (pe_c c__law_draw hr (by decide) rfl (pa_cons (pv 2) (pa_cons (pe_callB call_lenA (by rfl) T.n_len (by decide +kernel) (pa_cons (pv 9) pa_nil)) pa_nil))) (fun _ _ => rfl)) (pg_sub (pv 10) (pe_c c__law_draw hr (by decide) rfl (pa_cons (pv 2) (pa_cons (pe_callB call_lenA (by rfl) T.n_len (by decide +kernel) (pa_cons (pv 10) pa_nil)) pa_nil))) set_list)) (pss_cons (ps_set (i := 11) sc_law.nd rfl (Or.inl rfl) (pe_callTy call_list_of (by rfl) T.n_list (by decide +kernel) (pa_cons (pv 10) pa_nil))) (pss_cons (ps_asg (pe_ix ix_seq (pv 9) (pe_c c__law_draw hr (by decide) rfl (pa_cons (pv 2) (pa_cons (pe_callB call_lenA (by rfl) T.n_len (by decide +kernel) (pa_cons (pv 9) pa_nil)) pa_nil))) (fun _ _ => rfl)) (pg_sub (pv 11) (pe_c c__law_draw hr (by decide) rfl (pa_cons (pv 2) (pa_cons (pe_callB call_lenA (by rfl) T.n_len (by decide +kernel) (pa_cons (pv 11) pa_nil)) pa_nil))) set_list)) (pss_one (ps_for PassesOwn.never rfl (pi_any (pe_tup (pa_cons (pv 8) (pa_cons (pv 10) (pa_cons (pv 11) (pa_cons (pe_slice sl_any (pv 8) po_none (po_some pe_int)) (pa_cons (pe_op op_addA (pv 10) (pv 8)) (pa_cons (pe_lst (pa_cons pe_str pa_nil)) pa_nil)))))))) (pg_name (i := 7) sc_law.nd rfl (Or.inl rfl)) (pss_cons (ps_set (i := 12) sc_law.nd rfl (Or.inl rfl) (pe_join pe_str (pv 7))) (pss_one (ps_if (pt_cmpR (op_neA hr.units) (pe_callB (call_reprD hr hg) (by rfl) T.n_repr (by decide +kernel) (pa_cons (pe_c c_told3 hr (by decide) rfl (pa_cons (pv 12) (pa_cons pe_int pa_nil))) pa_nil)) (pe_callB (call_reprD hr hg) (by rfl) T.n_repr (by decide +kernel) (pa_cons (pe_c c__law_due_text hr (by decide) rfl (pa_cons (pv 12) pa_nil)) pa_nil)) (nomark _)) (pss_one (ps_ret pe_bl)) pss_nil)))))))))))))))))) (pss_one (ps_ret pe_bl))), enter h ?_⟩)
  dsimp only [cxOf, Cx.nox, Cx.wish]
  rintro ns ds M ⟨rfl, h63⟩
  refine sx_seqc (fun ρ' M' => True) (sx_for (ix_rng1 ?_)) ?_
  · walk_at "w"
    refine cx_min2 ?_
    walk_at "w"
    have hn : ∀ n : Int, (if (if n < 4 then n else 4) > 1 then (if n < 4 then n else 4) else 1) ≤ 4 ∧ 1 ≤ (if (if n < 4 then n else 4) > 1 then (if n < 4 then n else 4) else 1) := fun n => by
      split <;> split <;> omega
    generalize hm : (if (if ((ns.map Dt.int).length : Int) < 4 then ((ns.map Dt.int).length : Int) else 4) > 1 then (if ((ns.map Dt.int).length : Int) < 4 then ((ns.map Dt.int).length : Int) else 4) else 1) = m
    have hm3 := hn ((ns.map Dt.int).length : Int)
    rw [hm] at hm3
    refine ⟨by omega, by omega, fun i ρ' M' => ∃ o1 o2 o3 o4 o5 o6 o7 o8 o9 o10 o11 o12 o13 o14 o15 o16, ρ' = [some (.frl (ns.map Dt.int)), o1, o2, o3, o4, o5, o6, o7, o8, o9, o10, o11, o12, o13, o14, o15, o16], ⟨_, _, _, _, _, _, _, _, _, _, _, _, _, _, _, _, rfl⟩, fun _ _ _ _ _ => trivial, ?_, fun _ _ _ => trivial⟩
    rintro i d ρ' M1 hi ⟨o1, o2, o3, o4, o5, o6, o7, o8, o9, o10, o11, o12, o13, o14, o15, o16, rfl⟩
    obtain ⟨hi2, rfl⟩ := rng_get hi
    have hi3 : i < 4 := by omega
    walk_at "w"
    refine ex_call ?_
    walk_at "w"
    refine ⟨(ns, 0 + (i : Int)), ⟨rfl, by dsimp only; omega, by dsimp only; omega⟩, ?_⟩
    rintro d M2 ⟨a, c, rfl, ha, rfl, hc⟩
    refine sx_seq (sx_set (ex_lstC ?_))
    walk_at "w"
    refine fun p hp => ?_
    have hpa : p ≠ a := fun e => by
      rw [e, put_same] at hp
      cases hp
    have hp1 := put_none hp
    refine sx_seqc (fun ρ' M' => ∃ (ts : List (List Int)) (c' : Cell) (o4 o5 o6 o7 o8 o9 o10 o11 o12 o13 o14 o15 o16 : Option Dt), ρ' = [some (.frl (ns.map Dt.int)), some (.int (0 + (i : Int))), some (.raw (.ref a)), some (.raw (.ref p)), o4, o5, o6, o7, o8, o9, o10, o11, o12, o13, o14, o15, o16] ∧ M' = put (put M1 a c') p (.lst (ts.map T1)) ∧ IsSrc 100 c' ∧ ts.length ≤ 10 ∧ ∀ t ∈ ts, t.length ≤ 3 ∧ ∀ n ∈ t, n.natAbs ≤ 9) (sx_for (ix_rng1 (ax_cons ?_))) ?_
    · refine ex_draw (n := 0) (b := 11) (a := a) rfl ⟨c, (put_ne hpa.symm).trans put_same, hc⟩ (by decide) (by decide) (by decide) (by walk_at "w"; exact ⟨rfl, rfl⟩) fun k0 c1 k00 k01 hc1 => ?_
      rw [put_under hpa.symm]
      walk_at "w"
      refine ⟨by omega, by omega, fun k ρ' M' => ∃ (ts : List (List Int)) (c' : Cell) (o4 o5 o6 o7 o8 o9 o10 o11 o12 o13 o14 o15 o16 : Option Dt), ρ' = [some (.frl (ns.map Dt.int)), some (.int (0 + (i : Int))), some (.raw (.ref a)), some (.raw (.ref p)), o4, o5, o6, o7, o8, o9, o10, o11, o12, o13, o14, o15, o16] ∧ M' = put (put M1 a c') p (.lst (ts.map T1)) ∧ IsSrc (1 + 5 * (k : Int)) c' ∧ ts.length = k ∧ ∀ t ∈ ts, t.length ≤ 3 ∧ ∀ n ∈ t, n.natAbs ≤ 9, ⟨[], c1, _, _, _, _, _, _, _, _, _, _, _, _, _, rfl, rfl, hc1.mono (by omega), rfl, fun t ht => by cases ht⟩, fun _ _ _ _ _ => trivial, ?_, ?_⟩
      · rintro k d ρ' M' hk ⟨ts, c2, o4, o5, o6, o7, o8, o9, o10, o11, o12, o13, o14, o15, o16, rfl, rfl, hc2, hl, ht9⟩
        obtain ⟨hk2, rfl⟩ := rng_get hk
        have hk10 : k < 10 := by omega
        refine gx_name (sx_seq (sx_set (ex_op (ex_lst ?_))))
        walk_at "w"
        refine ex_draw (n := 1 + 5 * (k : Int)) (b := 10) (a := a) rfl ⟨c2, (put_ne hpa.symm).trans put_same, hc2⟩ (by decide) (by decide) (by omega) (by walk_at "w"; exact ⟨rfl, rfl⟩) fun q0 c3 q00 q01 hc3 => ?_
        rw [put_under hpa.symm]
        obtain ⟨z, hz, hz3⟩ : ∃ z : Nat, atI [Dt.int 2, Dt.int 2, Dt.int 2, Dt.int 2, Dt.int 2, Dt.int 2, Dt.int 2, Dt.int 0, Dt.int 1, Dt.int 3] q0 = some (.int (z : Int)) ∧ z ≤ 3 := by
          have e : q0 = 0 ∨ q0 = 1 ∨ q0 = 2 ∨ q0 = 3 ∨ q0 = 4 ∨ q0 = 5 ∨ q0 = 6 ∨ q0 = 7 ∨ q0 = 8 ∨ q0 = 9 := by omega
          rcases e with rfl | rfl | rfl | rfl | rfl | rfl | rfl | rfl | rfl | rfl
          · exact ⟨2, rfl, by decide⟩
          · exact ⟨2, rfl, by decide⟩
          · exact ⟨2, rfl, by decide⟩
          · exact ⟨2, rfl, by decide⟩
          · exact ⟨2, rfl, by decide⟩
          · exact ⟨2, rfl, by decide⟩
          · exact ⟨2, rfl, by decide⟩
          · exact ⟨0, rfl, by decide⟩
          · exact ⟨1, rfl, by decide⟩
          · exact ⟨3, rfl, by decide⟩
        refine rx_ix_lst hz ?_
        refine sx_drop (ex_append (a := p) ?_)
        walk_at "w"
        refine ⟨rfl, _, put_same, ?_⟩
        refine ax_cons (ex_cb (ax_cons (ex_lc (by exact gw_name (by decide)) (ix_rng1 ?_))))
        walk_at "w"
        refine ⟨by omega, by omega, ?_, fun y acc M' => ∃ (us : List Int) (c' : Cell), acc = us.map Dt.int ∧ us.length = y ∧ (∀ n ∈ us, n.natAbs ≤ 9) ∧ M' = put (put M1 a c') p (.lst (ts.map T1)) ∧ IsSrc (1 + 5 * (k : Int) + 1 + y) c', ⟨[], c3, rfl, rfl, (fun n hn => by cases hn), rfl, hc3.mono (by omega)⟩, fun _ _ _ _ _ => trivial, ?_, ?_⟩
        · rw [rng_len]
          exact Nat.lt_of_le_of_lt (m := 3) (by omega) (by decide)
        · rintro y d acc M' hy ⟨us, c4, rfl, hul, hu9, rfl, hc4⟩ _
          obtain ⟨hy2, rfl⟩ := rng_get hy
          walk_at "w"
          refine ⟨fun _ => ?_, fun h => by cases h⟩
          refine ex_op ?_
          refine ex_draw (n := 1 + 5 * (k : Int) + 1 + y) (b := 19) (a := a) rfl ⟨c4, (put_ne hpa.symm).trans put_same, hc4⟩ (by decide) (by decide) (by omega) (by walk_at "w"; exact ⟨rfl, rfl⟩) fun v0 c5 v00 v01 hc5 => ?_
          rw [put_under hpa.symm]
          walk_at "w"
          refine ⟨us ++ [v0 - 9], c5, by rw [List.map_append] <;> rfl, by rw [List.length_append, hul] <;> rfl, fun n hn => ?_, rfl, hc5.mono (by omega)⟩
          rcases List.mem_append.mp hn with e | e
          · exact hu9 n e
          · rw [List.mem_singleton.mp e]
            omega
        · rintro acc M' ⟨us, c4, rfl, hul, hu9, rfl, hc4⟩ _
          rw [rng_len] at hul hc4
          walk_at "w"
          refine ⟨.tup (us.map Dt.int), ts.map T1, rfl, put_same, ?_, ?_⟩
          · rw [List.length_map, hl]
            exact Nat.lt_of_le_of_lt (m := 10) (by omega) (by decide)
          · refine ⟨ts ++ [us], c4, _, _, _, _, _, _, _, _, _, _, _, _, _, rfl, ?_, hc4.mono (by omega), by rw [List.length_append, hl] <;> rfl, fun t ht => ?_⟩
            · rw [put_put, List.map_append] <;> rfl
            · rcases List.mem_append.mp ht with e | e
              · exact ht9 t e
              · rw [List.mem_singleton.mp e]
                exact ⟨by omega, hu9⟩
      · rintro ρ' M' ⟨ts, c2, o4, o5, o6, o7, o8, o9, o10, o11, o12, o13, o14, o15, o16, rfl, rfl, hc2, hl, ht9⟩
        rw [rng_len] at hl hc2
        exact ⟨ts, c2, _, _, _, _, _, _, _, _, _, _, _, _, _, rfl, rfl, hc2.mono (by omega), by omega, ht9⟩
    rintro ρ' M' ⟨ts, c1, o4, o5, o6, o7, o8, o9, o10, o11, o12, o13, o14, o15, o16, rfl, rfl, hc1, hl, ht9⟩
    refine sx_freeze 3 rfl put_same ?_
    rw [del_put ((put_ne hpa).trans hp1)]
    have hps : ∀ q ∈ ts.map mkPair, q.1.natAbs < 10 ^ 1 ∧ q.2.natAbs < 10 ^ 1 := fun q hq => by
      obtain ⟨t, ht, rfl⟩ := List.mem_map.mp hq
      exact mkPair_small (ht9 t ht).2
    refine sx_seq (sx_set (ex_lcm (by exact gw_name (by decide)) (ix_any (ex_var rfl ?_))))
    refine ⟨_, _, .inl ⟨.inl rfl, rfl⟩, ?_, trivial, ((ts.map mkPair).map l2).map T1, ?_, ?_, ?_⟩
    · rw [List.length_map]
      exact Nat.lt_of_le_of_lt hl (by decide)
    · rw [List.length_map, List.length_map, List.length_map, List.length_map]
    · intro y d z hy hz
      rw [List.getElem?_map] at hy
      obtain ⟨t, ht, rfl⟩ := Option.map_eq_some_iff.mp hy
      rw [List.getElem?_map, List.getElem?_map, List.getElem?_map, ht] at hz
      cases hz
      have h3 := (ht9 t (List.mem_of_getElem? ht)).1
      walk_at "w"
      refine rx_add_tup (Nat.le_trans (m := 10) (by rw [List.length_map]; show t.length + 2 ≤ 10; omega) (by decide)) ?_
      walk_at "w"
      refine ⟨?_, rfl⟩
      rw [mkPair_l2]
      show Dt.tup (cutD (t.map Dt.int ++ [Dt.int 7, Dt.int (-7)]) none (some 2)) = Dt.tup (((t ++ [7, -7]).take 2).map Dt.int)
      rw [show cutD (t.map Dt.int ++ [Dt.int 7, Dt.int (-7)]) none (some 2) = (t.map Dt.int ++ [Dt.int 7, Dt.int (-7)]).take 2 from cutD_to _ 2, List.map_take, List.map_append] <;> rfl
    generalize hPs : ts.map mkPair = prs at hps
    have hPl : prs.length = ts.length := by rw [← hPs, List.length_map]
    have shT : ∀ {us : List (List Int)}, (∀ t ∈ us, ∀ n ∈ t, n.natAbs ≤ 9) → us.length ≤ 10 → Sh (trD (polyF us)) := fun {us} h hl => sh_poly (fun t ht n hn => by have := h t ht n hn; have e : (9 : Nat) < 2 ^ 1000 := (by decide +kernel); omega) (by omega)
    have hp9 : ∀ t ∈ prs.map l2, ∀ n ∈ t, n.natAbs ≤ 9 := fun t ht n hn => by
      obtain ⟨q, hq, rfl⟩ := List.mem_map.mp ht
      have z := hps q hq
      rcases List.mem_cons.mp hn with rfl | hn
      · omega
      · rw [List.mem_singleton.mp hn]
        omega
    -- tuples
    refine sx_seqc (fun ρ' M' => ∃ o4 o5 o7 o8 o9 o10 o11 o12 o13 o14 o15 o16, ρ' = [some (.frl (ns.map Dt.int)), some (.int (0 + (i : Int))), some (.raw (.ref a)), some (Lts ts), o4, o5, some (Lts (prs.map l2)), o7, o8, o9, o10, o11, o12, o13, o14, o15, o16] ∧ M' = put M1 a c1) (sx_for (ix_any (ex_tup ?_))) ?_
    · walk_at "w"
      refine ⟨_, _, .inl ⟨.inr (.inr rfl), rfl⟩, fun _ ρ' M' => ∃ o4 o5 o7 o8 o9 o10 o11 o12 o13 o14 o15 o16, ρ' = [some (.frl (ns.map Dt.int)), some (.int (0 + (i : Int))), some (.raw (.ref a)), some (Lts ts), o4, o5, some (Lts (prs.map l2)), o7, o8, o9, o10, o11, o12, o13, o14, o15, o16] ∧ M' = put M1 a c1, ⟨_, _, _, _, _, _, _, _, _, _, _, _, rfl, rfl⟩, fun _ _ _ _ _ => trivial, ?_, fun ρ' M' h => h⟩
      rintro k d ρ' M' hk ⟨o4, o5, o7, o8, o9, o10, o11, o12, o13, o14, o15, o16, rfl, rfl⟩
      obtain ⟨L, rfl, hL, hLs⟩ : ∃ L, d = Lts L ∧ L.length ≤ 10 ∧ ∀ t ∈ L, ∀ n ∈ t, n.natAbs ≤ 9 := by
        have hmem := List.mem_of_getElem? hk
        simp only [List.mem_cons, List.not_mem_nil, or_false] at hmem
        rcases hmem with rfl | rfl
        · exact ⟨ts, rfl, hl, fun t ht => (ht9 t ht).2⟩
        · exact ⟨prs.map l2, rfl, by rw [List.length_map]; omega, hp9⟩
      have hSh := shT hLs hL
      walk_at "w"
      refine ex_callP ?_
      walk_at "w"
      refine ⟨.inl L, rfl, hL, ?_⟩
      walk_at "w"
      refine cx_repr hSh ?_
      walk_at "w"
      refine ex_callP ?_
      walk_at "w"
      refine ⟨by omega, ?_⟩
      walk_at "w"
      refine cx_repr hSh ?_
      walk_at "w"
      refine ⟨fun h => absurd h (by simp [valT]), fun _ => ?_⟩
      refine sx_next ⟨_, _, _, _, _, _, _, _, _, _, _, _, rfl, rfl⟩
    rintro ρ' M' ⟨o4, o5, o7, o8, o9, o10, o11, o12, o13, o14, o15, o16, rfl, rfl⟩
    -- texts
    have hPs2 : Lts (prs.map l2) = Lps prs := lts_l2 prs
    have hsm : ∀ q ∈ prs, q.1.natAbs < 2 ^ 200 ∧ q.2.natAbs < 2 ^ 200 := fun q hq => by
      have := hps q hq
      omega
    rw [hPs2]
    refine sx_seq (sx_set (ex_op (ex_lcm (by exact gw_tup (gw_cons (gw_name (by decide)) (gw_cons (gw_name (by decide)) gw_nil gm_name) gm_name)) (ix_any (ex_var rfl ?_)))))
    refine ⟨_, _, .inl ⟨.inl rfl, rfl⟩, ?_, trivial, (prs.map wP).map Dt.str, ?_, ?_, ?_⟩
    · rw [List.length_map]
      exact Nat.lt_of_le_of_lt (m := 10) (by omega) (by decide)
    · rw [List.length_map, List.length_map, List.length_map]
    · intro y d z hy hz
      rw [List.getElem?_map] at hy
      obtain ⟨q, hq, rfl⟩ := Option.map_eq_some_iff.mp hy
      rw [List.getElem?_map, List.getElem?_map, hq] at hz
      cases hz
      have hqs := hsm q (List.mem_of_getElem? hq)
      have l1 := wI_len hqs.1
      have l2 := wI_len hqs.2
      walk_at "w"
      refine cx_str (log_lt hqs.1) ?_
      walk_at "w"
      refine rx_add_str (Nat.le_trans (Nat.add_le_add_right l1 _) (by decide)) ?_
      walk_at "w"
      refine cx_str (log_lt hqs.2) ?_
      refine rx_add_str (Nat.le_trans (m := 200) ?_ (by decide)) ?_
      · rw [TL.len_tl, TL.tl_append, List.length_append, ← TL.len_tl, ← TL.len_tl]
        have e1 : (wI q.1).length ≤ 62 := l1
        have e2 : (Str.ofString (toString q.2)).length ≤ 62 := l2
        have e3 : (Str.ofString ",").length ≤ 1 := by decide
        have e4 : (Str.ofString (toString q.1)).length ≤ 62 := l1
        omega
      · exact ⟨rfl, rfl⟩
    have b12 : ((10 : Int) ^ Int.toNat 12).natAbs < 2 ^ 200 := by decide +kernel
    have b12n : (-(10 : Int) ^ Int.toNat 12).natAbs < 2 ^ 200 := by decide +kernel
    refine ex_lst ?_
    walk_at "w"
    refine cx_str (log_lt b12) ?_
    walk_at "w"
    refine rx_add_str (Nat.le_trans (Nat.add_le_add_right (wI_len b12) _) (by decide)) ?_
    walk_at "w"
    refine cx_str (log_lt b12n) ?_
    refine rx_add_str (Nat.le_trans (m := 200) ?_ (by decide)) ?_
    · rw [TL.len_tl, TL.tl_append, List.length_append, ← TL.len_tl, ← TL.len_tl]
      have e1 : (Str.ofString (toString ((10 : Int) ^ Int.toNat 12))).length ≤ 62 := wI_len b12
      have e2 : (Str.ofString (toString (-(10 : Int) ^ Int.toNat 12))).length ≤ 62 := wI_len b12n
      have e3 : (Str.ofString ",").length ≤ 1 := by decide
      omega
    walk_at "w"
    refine rx_add_lst (Nat.le_trans (m := 20) (by rw [List.length_map, List.length_map]; show prs.length + 1 ≤ 20; omega) (by decide)) ?_
    obtain ⟨XS, hX, hXP, hXl⟩ : ∃ XS : List Str, (prs.map wP).map Dt.str ++ [Dt.str (Str.ofString (toString ((10 : Int) ^ Int.toNat 12)) ++ Str.ofString "," ++ Str.ofString (toString (-(10 : Int) ^ Int.toNat 12)))] = XS.map Dt.str ∧ Parts XS 90 ∧ XS.length ≤ 11 ∧ 1 ≤ XS.length := by
      refine ⟨prs.map wP ++ [wP ((10 : Int) ^ Int.toNat 12, -(10 : Int) ^ Int.toNat 12)], ?_, ⟨?_, ?_⟩, ?_, ?_⟩
      · rw [List.map_append] <;> rfl
      · intro x hx
        rcases List.mem_append.mp hx with z | z
        · obtain ⟨q, _, rfl⟩ := List.mem_map.mp z
          exact asc_wP q
        · rw [List.mem_singleton.mp z]
          exact asc_wP _
      · have h1 := lenS_wP hps
        have h2 := wP_short (p := ((10 : Int) ^ Int.toNat 12, -(10 : Int) ^ Int.toNat 12)) (k := 13) (by decide) ⟨by decide +kernel, by decide +kernel⟩
        rw [lenS_append, List.length_append, List.length_map]
        have h3 : lenS [wP ((10 : Int) ^ Int.toNat 12, -(10 : Int) ^ Int.toNat 12)] = (wP ((10 : Int) ^ Int.toNat 12, -(10 : Int) ^ Int.toNat 12)).length := by
          unfold lenS
          simp
        rw [h3]
        show _ + (prs.length + 1) ≤ 90
        omega
      · rw [List.length_append, List.length_map]
        show prs.length + 1 ≤ 11
        omega
      · rw [List.length_append, List.length_map]
        show 1 ≤ prs.length + 1
        omega
    rw [hX]
    refine sx_seq (sx_set (ex_lst ?_))
    walk_at "w"
    refine ex_lst ?_
    walk_at "w"
    refine rx_add_lstE (zs := ODD.map Dt.str) (by decide) rfl ?_
    -- once
    refine sx_seq (sx_set (ex_cb (ax_cons (ex_var rfl (ax_nil ?_)))))
    refine cx_listC (.inl ⟨.inl rfl, rfl⟩) fun w hw => ?_
    have hwa : w ≠ a := fun e => by
      rw [e, put_same] at hw
      cases hw
    have hw1 := put_none hw
    refine sx_seq (sx_asg (ex_op (ex_var rfl ?_)))
    refine ex_draw (n := 100) (b := ((ODD.map Dt.str).length : Int)) (a := a) rfl ⟨c1, (put_ne hwa.symm).trans put_same, hc1⟩ (by decide) (by decide) (by decide) (by walk_at "w"; exact ⟨rfl, rfl⟩) fun q1 c2 q10 q11 hc2 => ?_
    rw [put_under hwa.symm]
    obtain ⟨s1, hs1, hs1o⟩ := atI_strs q10 q11
    refine rx_ix_lst hs1 ?_
    refine gx_sub (ex_var rfl ?_)
    refine ex_draw (n := 101) (b := ((XS.map Dt.str).length : Int)) (a := a) rfl ⟨c2, (put_ne hwa.symm).trans put_same, hc2⟩ (by rw [List.length_map]; omega) (by rw [List.length_map]; exact Int.lt_of_le_of_lt (b := 11) (by omega) (by decide)) (by decide) (by walk_at "w"; exact ⟨rfl, rfl⟩) fun q2 c3 q20 q21 hc3 => ?_
    rw [put_under hwa.symm]
    rw [List.length_map] at q21
    refine ⟨w, _, q2, q2.toNat, rfl, rfl, put_same, by
      rw [List.length_map, show q2 = ((q2.toNat : Nat) : Int) by omega, Int.toNat_natCast]
      exact Evl.ixN_nat (by omega), ?_⟩
    rw [put_put, strs_set]
    have hY : Parts (XS.set q2.toNat s1) 97 := hXP.set (odd_ok s1 hs1o).1 (odd_ok s1 hs1o).2 _
    have hYl : (XS.set q2.toNat s1).length = XS.length := List.length_set
    generalize XS.set q2.toNat s1 = YS at hY hYl
    refine sx_freeze 10 rfl put_same ?_
    rw [del_put ((put_ne hwa).trans hw1)]
    -- twice
    refine sx_seq (sx_set (ex_cb (ax_cons (ex_var rfl (ax_nil ?_)))))
    refine cx_listC (.inl ⟨.inl rfl, rfl⟩) fun v hv => ?_
    have hva : v ≠ a := fun e => by
      rw [e, put_same] at hv
      cases hv
    have hv1 := put_none hv
    refine sx_seq (sx_asg (ex_op (ex_var rfl ?_)))
    refine ex_draw (n := 102) (b := ((ODD.map Dt.str).length : Int)) (a := a) rfl ⟨c3, (put_ne hva.symm).trans put_same, hc3⟩ (by decide) (by decide) (by decide) (by walk_at "w"; exact ⟨rfl, rfl⟩) fun q3 c4 q30 q31 hc4 => ?_
    rw [put_under hva.symm]
    obtain ⟨s2, hs2, hs2o⟩ := atI_strs q30 q31
    refine rx_ix_lst hs2 ?_
    refine gx_sub (ex_var rfl ?_)
    refine ex_draw (n := 103) (b := ((YS.map Dt.str).length : Int)) (a := a) rfl ⟨c4, (put_ne hva.symm).trans put_same, hc4⟩ (by rw [List.length_map]; omega) (by rw [List.length_map]; exact Int.lt_of_le_of_lt (b := 11) (by omega) (by decide)) (by decide) (by walk_at "w"; exact ⟨rfl, rfl⟩) fun q4 c5 q40 q41 hc5 => ?_
    rw [put_under hva.symm]
    rw [List.length_map] at q41
    refine ⟨v, _, q4, q4.toNat, rfl, rfl, put_same, by
      rw [List.length_map, show q4 = ((q4.toNat : Nat) : Int) by omega, Int.toNat_natCast]
      exact Evl.ixN_nat (by omega), ?_⟩
    rw [put_put, strs_set]
    have hZ : Parts (YS.set q4.toNat s2) 104 := hY.set (odd_ok s2 hs2o).1 (odd_ok s2 hs2o).2 _
    have hZl : (YS.set q4.toNat s2).length = YS.length := List.length_set
    generalize YS.set q4.toNat s2 = ZS at hZ hZl
    refine sx_freeze 11 rfl put_same ?_
    rw [del_put ((put_ne hva).trans hv1)]
    -- the cases
    refine sx_for (ix_any (ex_tup ?_))
    walk_at "w"
    refine rx_add_lst (Nat.le_trans (m := 30) (by rw [List.length_map, List.length_map]; omega) (by decide)) ?_
    refine ax_cons (ex_lst ?_)
    walk_at "w"
    have c2 : cutD (XS.map Dt.str) none (some 2) = (XS.take 2).map Dt.str := by
      rw [show cutD (XS.map Dt.str) none (some 2) = (XS.map Dt.str).take 2 from cutD_to _ 2, List.map_take]
    have cYX : YS.map Dt.str ++ XS.map Dt.str = (YS ++ XS).map Dt.str := (List.map_append).symm
    have cases : ∀ d ∈ [Dt.lst (XS.map Dt.str), Dt.lst (YS.map Dt.str), Dt.lst (ZS.map Dt.str), Dt.lst (cutD (XS.map Dt.str) none (some 2)), Dt.lst (YS.map Dt.str ++ XS.map Dt.str), Dt.lst [Dt.str (Str.ofString "")]], ∃ us, d = .lst (us.map Dt.str) ∧ Parts us 200 ∧ us.length ≤ 30 := by
      intro d hd
      simp only [List.mem_cons, List.not_mem_nil, or_false] at hd
      rcases hd with rfl | rfl | rfl | rfl | rfl | rfl
      · exact ⟨XS, rfl, hXP.mono (by decide), by omega⟩
      · exact ⟨YS, rfl, hY.mono (by decide), by omega⟩
      · exact ⟨ZS, rfl, hZ.mono (by decide), by omega⟩
      · exact ⟨XS.take 2, by rw [c2], (hXP.take 2).mono (by decide), by rw [List.length_take]; omega⟩
      · exact ⟨YS ++ XS, by rw [cYX], (hY.append hXP).mono (by decide), by rw [List.length_append]; omega⟩
      · exact ⟨[Str.ofString ""], rfl, ⟨by unfold Asc; decide +kernel, by decide +kernel⟩, by decide⟩
    refine ⟨_, _, .inl ⟨.inr (.inr rfl), rfl⟩, fun _ ρ' M' => ∃ o4 o5 o6 o7 o8 o9 o10 o11 o12 o13 o14 o15 o16, ρ' = [some (.frl (ns.map Dt.int)), some (.int (0 + (i : Int))), some (.raw (.ref a)), some (Lts ts), o4, o5, o6, o7, o8, o9, o10, o11, o12, o13, o14, o15, o16] ∧ M' = put M1 a c5, ⟨_, _, _, _, _, _, _, _, _, _, _, _, _, rfl, rfl⟩, fun _ _ _ _ _ => trivial, ?_, ?_⟩
    · rintro k d ρ' M' hk ⟨o4, o5, o6, o7, o8, o9, o10, o11, o12, o13, o14, o15, o16, rfl, rfl⟩
      obtain ⟨us, rfl, hus, hul⟩ := cases d (List.mem_of_getElem? hk)
      have hrd := hus.rd (by decide)
      have hsh := sh_text hrd
      walk_at "w"
      refine ⟨⟨_, rfl⟩, ?_⟩
      walk_at "w"
      refine mx_join (.inl ⟨.inl rfl, rfl⟩) ?_ ?_
      · have q : lenS us + us.length ≤ 200 := hus.len
        unfold lenS at q
        have e3 : (Str.ofString " ").length ≤ 1 := by decide
        have e4 : us.length * (Str.ofString " ").length ≤ 30 * 1 := Nat.mul_le_mul hul e3
        omega
      walk_at "w"
      refine ex_callP ?_
      walk_at "w"
      refine ⟨.inr (Txt.join sBlank us), rfl, hrd, ?_⟩
      walk_at "w"
      refine cx_repr hsh ?_
      walk_at "w"
      refine ex_callP ?_
      walk_at "w"
      refine ⟨hrd, ?_⟩
      walk_at "w"
      refine cx_repr hsh ?_
      walk_at "w"
      refine ⟨fun h => absurd h (by simp [valT]), fun _ => ?_⟩
      exact sx_next ⟨_, _, _, _, _, _, _, _, _, _, _, _, _, rfl, rfl⟩
    · rintro ρ' M' ⟨o4, o5, o6, o7, o8, o9, o10, o11, o12, o13, o14, o15, o16, rfl, rfl⟩
      exact ⟨_, _, _, _, _, _, _, _, _, _, _, _, _, _, _, _, rfl⟩
  · rintro ρ' M' _
    refine sx_ret (ex_bl ?_)
    exact ⟨M', Sub.refl _, rfl⟩

end
end Wk
/-! ## P58 -/
namespace Wk
open PySem L2 Evl
local macro_rules | `(tactic| walk_at "w1") => `(tactic| first
  | ((with_reducible refine' ex_var ?hv ?_); (case hv => rfl))
  | ((with_reducible refine' rx_ix_tup ?hv ?_); (case hv => rfl))
  | ((with_reducible refine' rx_ix_lst ?hv ?_); (case hv => rfl))
  | ((with_reducible refine' gx_tup ?hv ?_); (case hv => rfl))
  | ((with_reducible refine' rx_ix_cell ?hm ?hv ?_); (case hm => first | assumption | exact put_same); (case hv => rfl))
  | ((with_reducible refine' cx_len_cell ?hm ?_); (case hm => first | assumption | exact put_same))
  | ((with_reducible refine' rx_Ii ?hc ?_); (case hc => first | assumption | exact ⟨by decide, by decide +kernel⟩ | (show (0 : Int) < _; omega) | (show (0 : Int) < _; decide)))
  | ((with_reducible refine' rx_mul_int ?hc ?_); (case hc => first | assumption | exact cmul_l (by decide) (by decide) | exact cmul_r (by decide) (by decide)))
  | with_reducible refine ex_int ?_
  | with_reducible refine ex_str ?_
  | with_reducible refine ex_bl ?_
  | with_reducible refine ex_non ?_
  | with_reducible refine ex_raw ?_
  | with_reducible refine ex_op ?_
  | with_reducible refine ex_un ?_
  | with_reducible refine ex_cb ?_
  | with_reducible refine ex_tup ?_
  | with_reducible refine ex_sl ?_
  | with_reducible refine ox_none ?_
  | with_reducible refine ox_some ?_
  | with_reducible refine ax_nil ?_
  | with_reducible refine ax_cons ?_
  | with_reducible refine ex_if ?_
  | with_reducible refine ex_andV ?_
  | with_reducible refine ex_orV ?_
  | with_reducible refine ex_notV ?_
  | with_reducible refine ex_m0 ?_
  | with_reducible refine ex_m1 ?_
  | with_reducible refine tx_test ?_
  | with_reducible refine tx_B ?_
  | with_reducible refine tx_and ?_
  | with_reducible refine tx_or ?_
  | with_reducible refine tx_not ?_
  | with_reducible refine tx_yes ?_
  | with_reducible refine sx_seq ?_
  | with_reducible refine sx_set ?_
  | with_reducible refine sx_ret ?_
  | with_reducible refine sx_drop ?_
  | with_reducible refine sx_next ?_
  | with_reducible refine sx_if ?_
  | with_reducible refine sx_retN ?_
  | with_reducible refine sx_asg ?_
  | with_reducible refine sx_par ?_
  | with_reducible refine gx_name ?_
  | with_reducible refine gxs_cons ?_
  | with_reducible refine gxs_nil ?_
  | with_reducible refine rx_add_int ?_
  | with_reducible refine rx_I0i ?_
  | with_reducible refine rx_I0b ?_
  | with_reducible refine rx_eq_int ?_
  | with_reducible refine rx_ne_int ?_
  | with_reducible refine rx_eq_str ?_
  | with_reducible refine rx_ne_str ?_
  | with_reducible refine rx_eq_bl ?_
  | with_reducible refine rx_ne_bl ?_
  | with_reducible refine lx_tup ?_
  | with_reducible refine lx_lst ?_
  | with_reducible refine cx_len_tup ?_
  | with_reducible refine cx_len_lst ?_
  | with_reducible refine cx_len_frl ?_
  | with_reducible refine cx_max2 ?_
  | with_reducible refine ux_neg ?_
  | with_reducible refine cx_list_lst ?_
  | with_reducible refine cx_tuple_lst ?_
  | with_reducible refine cx_tuple_tup ?_
  | with_reducible refine mx_isdigit ?_
  | with_reducible refine mx_startswith ?_
  | with_reducible refine ix_any ?_
  | with_reducible refine And.intro (Nat.le_of_ble_eq_true rfl) ?_
  | refine Exists.intro _ (And.intro rfl ?_))
local macro_rules | `(tactic| walk_at "w") => `(tactic| repeat (walk_at "w1"))


section
variable {P : Program} {w : World} {K : PySem.W.Frag} {mg : Str → Option Value} {base : Heap} {C WE BP BT NC BJ : Addr}
abbrev si_BadPolygon : Stmt := inClass (top 3) 0
theorem sT_BadPolygon : SupT "index" (defArgs si_BadPolygon) (defBody si_BadPolygon) (defScope si_BadPolygon) where
  hd := ⟨_, rfl, rfl⟩
  body := ⟨_, _, _, _, _, _, _, _, _, _, _, _, _, rfl, by decide, (fun e he => by
    simp only [List.mem_cons, List.not_mem_nil, or_false] at he
    rcases he with rfl | rfl
    · exact .txt _ _ _ (by decide)
    · exact .fld _ _), fun env => ⟨_, rfl⟩⟩
  kind := rfl
  co := rfl
  gen := rfl
  noC := by decide +kernel
  ls := rfl
  lf := rfl
  su := rfl
  cl := rfl
  ne := by decide
  nd := by decide

abbrev si_BadText : Stmt := inClass (top 4) 0
theorem sT_BadText : SupT "index" (defArgs si_BadText) (defBody si_BadText) (defScope si_BadText) where
  hd := ⟨_, rfl, rfl⟩
  body := ⟨_, _, _, _, _, _, _, _, _, _, _, _, _, rfl, by decide, (fun e he => by
    simp only [List.mem_cons, List.not_mem_nil, or_false] at he
    rcases he with rfl | rfl | rfl
    · exact .txt _ _ _ (by decide)
    · exact .fld _ _
    · exact .txt _ _ _ (by decide)), fun env => ⟨_, rfl⟩⟩
  kind := rfl
  co := rfl
  gen := rfl
  noC := by decide +kernel
  ls := rfl
  lf := rfl
  su := rfl
  cl := rfl
  ne := by decide
  nd := by decide

end
end Wk
/-! ## P59 -/
namespace Wk
open PySem L2 Evl
theorem _root_.L2.FnOk.raw0 {P : Program} {w : World} {K : PySem.W.Frag} {mg : Str → Option Value} {base : Heap} {CX : CXT} {k : Nat} {f : Addr} {sp : Sp} {fd : FuncData} {ps : List Str} (F : FnOk P w K mg base CX k f fd ps sp) (hb : Binds K fd ps []) : FnR P w K mg base CX k f sp :=
  (F.raw hb .nil).imp fun vs H Q E h => by
    show sp (vs ++ []) H Q E
    rw [List.append_nil]
    exact h
theorem all_mk {l : PySem.W.OpenLaw} {w : World} {K : PySem.W.Frag} {h : Heap} {mg : Str → Option Value} {fa C f_is_count f_is_number f_read_points f_check_pairs f__law_source f__law_draw f__law_tried f__law_integer f__law_point f__law_due f__law_due_text f__law_told f_law f_Pinit f_Pparse p_Pparse : Addr} {mt lt : Tok} {oc_is_count dc_is_count pm_is_count cd_is_count ct_is_count kV_is_count oc_is_number dc_is_number pm_is_number cd_is_number ct_is_number kV_is_number oc_read_points dc_read_points pm_read_points cd_read_points ct_read_points kV_read_points oc_check_pairs dc_check_pairs pm_check_pairs cd_check_pairs ct_check_pairs kV_check_pairs oc__law_source dc__law_source pm__law_source cd__law_source ct__law_source kV__law_source oc__law_draw dc__law_draw pm__law_draw cd__law_draw ct__law_draw kV__law_draw oc__law_tried dc__law_tried pm__law_tried cd__law_tried ct__law_tried kV__law_tried oc__law_integer dc__law_integer pm__law_integer cd__law_integer ct__law_integer kV__law_integer oc__law_point dc__law_point pm__law_point cd__law_point ct__law_point kV__law_point oc__law_due dc__law_due pm__law_due cd__law_due ct__law_due kV__law_due oc__law_due_text dc__law_due_text pm__law_due_text cd__law_due_text ct__law_due_text kV__law_due_text oc__law_told dc__law_told pm__law_told cd__law_told ct__law_told kV__law_told oc_law dc_law pm_law cd_law ct_law kV_law oc_Pinit dc_Pinit pm_Pinit cd_Pinit ct_Pinit kV_Pinit oc_Pparse dc_Pparse pm_Pparse cd_Pparse ct_Pparse kV_Pparse : Value} {od_is_count an_is_count od_is_number an_is_number od_read_points an_read_points od_check_pairs an_check_pairs od__law_source an__law_source od__law_draw an__law_draw od__law_tried an__law_tried od__law_integer an__law_integer od__law_point an__law_point od__law_due an__law_due od__law_due_text an__law_due_text od__law_told an__law_told od_law an_law od_Pinit an_Pinit od_Pparse an_Pparse : Option Addr} {sl_is_count sl_is_number sl_read_points sl_check_pairs sl__law_source sl__law_draw sl__law_tried sl__law_integer sl__law_point sl__law_due sl__law_due_text sl__law_told sl_law sl_Pinit sl_Pparse : Array (Option Value)} {r_Pparse : List Value}
    {WE N_WE : Addr} {nm_WE q_WE : Str} {bs_WE bm_WE su_WE : List Value} {hd_WE ab_WE : Bool} {sn_WE : List Str} {co_WE : Option Bool} {dd_WE : Option Addr} {k0_WE k1_WE k2_WE k3_WE k5_WE : Option Value} {id_WE : String}
    {BP N_BP f_BP cda_BP cc_BP : Addr} {nm_BP q_BP fi_BP : Str} {tf_BP : Tok} {bs_BP su_BP : List Value} {ab_BP : Bool} {sn_BP : List Str} {co_BP : Option Bool} {dd_BP od_BP an_BP cdd_BP cld_BP : Option Addr} {k0_BP k1_BP k2_BP k3_BP k5_BP : Option Value} {oc_BP kV_BP dc_BP pm_BP ct_BP ccl_BP cl_BP : Value} {sl_BP ccs_BP csl_BP : Array (Option Value)} {vs_BP : Array Value}
    {BT N_BT f_BT cda_BT cc_BT : Addr} {nm_BT q_BT fi_BT : Str} {tf_BT : Tok} {bs_BT su_BT : List Value} {ab_BT : Bool} {sn_BT : List Str} {co_BT : Option Bool} {dd_BT od_BT an_BT cdd_BT cld_BT : Option Addr} {k0_BT k1_BT k2_BT k3_BT k5_BT : Option Value} {oc_BT kV_BT dc_BT pm_BT ct_BT ccl_BT cl_BT : Value} {sl_BT ccs_BT csl_BT : Array (Option Value)} {vs_BT : Array Value}
    {NC : Addr}
    {BJ : Addr}
    (X : K.In h) (G : h.Ns mainGlobals mg) (hfa : mg "law" = some (.ref fa))
    (a_is_count : PySem.W.nsIn K mainGlobals "is_count" = some (some (.ref f_is_count)))
    (l_is_count : K.lookup f_is_count = some ⟨oc_is_count, od_is_count, .func (PySem.W.fnOf "is_count" "is_count" (defArgs s_is_count) (defBody s_is_count) (defScope s_is_count) .none kV_is_count dc_is_count pm_is_count an_is_count cd_is_count ct_is_count), sl_is_count⟩)
    (c_is_count : PySem.W.codeIn K cd_is_count "is_count" = true)
    (k_is_count : PySem.W.keepIn K (.ref f_is_count) = true)
    (a_is_number : PySem.W.nsIn K mainGlobals "is_number" = some (some (.ref f_is_number)))
    (l_is_number : K.lookup f_is_number = some ⟨oc_is_number, od_is_number, .func (PySem.W.fnOf "is_number" "is_number" (defArgs s_is_number) (defBody s_is_number) (defScope s_is_number) .none kV_is_number dc_is_number pm_is_number an_is_number cd_is_number ct_is_number), sl_is_number⟩)
    (c_is_number : PySem.W.codeIn K cd_is_number "is_number" = true)
    (k_is_number : PySem.W.keepIn K (.ref f_is_number) = true)
    (a_read_points : PySem.W.nsIn K mainGlobals "read_points" = some (some (.ref f_read_points)))
    (l_read_points : K.lookup f_read_points = some ⟨oc_read_points, od_read_points, .func (PySem.W.fnOf "read_points" "read_points" (defArgs s_read_points) (defBody s_read_points) (defScope s_read_points) .none kV_read_points dc_read_points pm_read_points an_read_points cd_read_points ct_read_points), sl_read_points⟩)
    (c_read_points : PySem.W.codeIn K cd_read_points "read_points" = true)
    (k_read_points : PySem.W.keepIn K (.ref f_read_points) = true)
    (a_check_pairs : PySem.W.nsIn K mainGlobals "check_pairs" = some (some (.ref f_check_pairs)))
    (l_check_pairs : K.lookup f_check_pairs = some ⟨oc_check_pairs, od_check_pairs, .func (PySem.W.fnOf "check_pairs" "check_pairs" (defArgs s_check_pairs) (defBody s_check_pairs) (defScope s_check_pairs) .none kV_check_pairs dc_check_pairs pm_check_pairs an_check_pairs cd_check_pairs ct_check_pairs), sl_check_pairs⟩)
    (c_check_pairs : PySem.W.codeIn K cd_check_pairs "check_pairs" = true)
    (k_check_pairs : PySem.W.keepIn K (.ref f_check_pairs) = true)
    (a__law_source : PySem.W.nsIn K mainGlobals "_law_source" = some (some (.ref f__law_source)))
    (l__law_source : K.lookup f__law_source = some ⟨oc__law_source, od__law_source, .func (PySem.W.fnOf "_law_source" "_law_source" (defArgs s__law_source) (defBody s__law_source) (defScope s__law_source) .none kV__law_source dc__law_source pm__law_source an__law_source cd__law_source ct__law_source), sl__law_source⟩)
    (c__law_source : PySem.W.codeIn K cd__law_source "_law_source" = true)
    (k__law_source : PySem.W.keepIn K (.ref f__law_source) = true)
    (a__law_draw : PySem.W.nsIn K mainGlobals "_law_draw" = some (some (.ref f__law_draw)))
    (l__law_draw : K.lookup f__law_draw = some ⟨oc__law_draw, od__law_draw, .func (PySem.W.fnOf "_law_draw" "_law_draw" (defArgs s__law_draw) (defBody s__law_draw) (defScope s__law_draw) .none kV__law_draw dc__law_draw pm__law_draw an__law_draw cd__law_draw ct__law_draw), sl__law_draw⟩)
    (c__law_draw : PySem.W.codeIn K cd__law_draw "_law_draw" = true)
    (k__law_draw : PySem.W.keepIn K (.ref f__law_draw) = true)
    (a__law_tried : PySem.W.nsIn K mainGlobals "_law_tried" = some (some (.ref f__law_tried)))
    (l__law_tried : K.lookup f__law_tried = some ⟨oc__law_tried, od__law_tried, .func (PySem.W.fnOf "_law_tried" "_law_tried" (defArgs s__law_tried) (defBody s__law_tried) (defScope s__law_tried) .none kV__law_tried dc__law_tried pm__law_tried an__law_tried cd__law_tried ct__law_tried), sl__law_tried⟩)
    (c__law_tried : PySem.W.codeIn K cd__law_tried "_law_tried" = true)
    (k__law_tried : PySem.W.keepIn K (.ref f__law_tried) = true)
    (a__law_integer : PySem.W.nsIn K mainGlobals "_law_integer" = some (some (.ref f__law_integer)))
    (l__law_integer : K.lookup f__law_integer = some ⟨oc__law_integer, od__law_integer, .func (PySem.W.fnOf "_law_integer" "_law_integer" (defArgs s__law_integer) (defBody s__law_integer) (defScope s__law_integer) .none kV__law_integer dc__law_integer pm__law_integer an__law_integer cd__law_integer ct__law_integer), sl__law_integer⟩)
    (c__law_integer : PySem.W.codeIn K cd__law_integer "_law_integer" = true)
    (k__law_integer : PySem.W.keepIn K (.ref f__law_integer) = true)
    (a__law_point : PySem.W.nsIn K mainGlobals "_law_point" = some (some (.ref f__law_point)))
    (l__law_point : K.lookup f__law_point = some ⟨oc__law_point, od__law_point, .func (PySem.W.fnOf "_law_point" "_law_point" (defArgs s__law_point) (defBody s__law_point) (defScope s__law_point) .none kV__law_point dc__law_point pm__law_point an__law_point cd__law_point ct__law_point), sl__law_point⟩)
    (c__law_point : PySem.W.codeIn K cd__law_point "_law_point" = true)
    (k__law_point : PySem.W.keepIn K (.ref f__law_point) = true)
    (a__law_due : PySem.W.nsIn K mainGlobals "_law_due" = some (some (.ref f__law_due)))
    (l__law_due : K.lookup f__law_due = some ⟨oc__law_due, od__law_due, .func (PySem.W.fnOf "_law_due" "_law_due" (defArgs s__law_due) (defBody s__law_due) (defScope s__law_due) .none kV__law_due dc__law_due pm__law_due an__law_due cd__law_due ct__law_due), sl__law_due⟩)
    (c__law_due : PySem.W.codeIn K cd__law_due "_law_due" = true)
    (k__law_due : PySem.W.keepIn K (.ref f__law_due) = true)
    (a__law_due_text : PySem.W.nsIn K mainGlobals "_law_due_text" = some (some (.ref f__law_due_text)))
    (l__law_due_text : K.lookup f__law_due_text = some ⟨oc__law_due_text, od__law_due_text, .func (PySem.W.fnOf "_law_due_text" "_law_due_text" (defArgs s__law_due_text) (defBody s__law_due_text) (defScope s__law_due_text) .none kV__law_due_text dc__law_due_text pm__law_due_text an__law_due_text cd__law_due_text ct__law_due_text), sl__law_due_text⟩)
    (c__law_due_text : PySem.W.codeIn K cd__law_due_text "_law_due_text" = true)
    (k__law_due_text : PySem.W.keepIn K (.ref f__law_due_text) = true)
    (a__law_told : PySem.W.nsIn K mainGlobals "_law_told" = some (some (.ref f__law_told)))
    (l__law_told : K.lookup f__law_told = some ⟨oc__law_told, od__law_told, .func (PySem.W.fnOf "_law_told" "_law_told" (defArgs s__law_told) (defBody s__law_told) (defScope s__law_told) .none kV__law_told dc__law_told pm__law_told an__law_told cd__law_told ct__law_told), sl__law_told⟩)
    (c__law_told : PySem.W.codeIn K cd__law_told "_law_told" = true)
    (k__law_told : PySem.W.keepIn K (.ref f__law_told) = true)
    (a_law : PySem.W.nsIn K mainGlobals "law" = some (some (.ref f_law)))
    (l_law : K.lookup f_law = some ⟨oc_law, od_law, .func (PySem.W.fnOf "law" "law" (defArgs s_law) (defBody s_law) (defScope s_law) .none kV_law dc_law pm_law an_law cd_law ct_law), sl_law⟩)
    (c_law : PySem.W.codeIn K cd_law "law" = true)
    (k_law : PySem.W.keepIn K (.ref f_law) = true)
    (aC : PySem.W.nsIn K mainGlobals "Polygon" = some (some (.ref C)))
    (a_Pinit : PySem.W.findIn K (.ref C) "__init__" = some (some (.ref f_Pinit)))
    (i_Pinit : PySem.W.isFn K (.ref f_Pinit) = true)
    (l_Pinit : K.lookup f_Pinit = some ⟨oc_Pinit, od_Pinit, .func (PySem.W.fnOf "__init__" "Polygon.__init__" (defArgs s_Polygon_init) (defBody s_Polygon_init) (defScope s_Polygon_init) .none kV_Pinit dc_Pinit pm_Pinit an_Pinit cd_Pinit ct_Pinit), sl_Pinit⟩)
    (c_Pinit : PySem.W.codeIn K cd_Pinit "Polygon.__init__" = true)
    (k_Pinit : PySem.W.keepIn K (.ref f_Pinit) = true)
    (rd : PySem.W.readsIn K C (.type "type") = true)
    (ga : PySem.W.specialIn K (.ref C) "__getattribute__" = some (some (.builtin "type.__getattribute__")))
    (a_Pparse : PySem.W.findCls K (.ref C) (.type "type") "parse" = some (.get (.builtin "classmethod.__get__") (.ref p_Pparse) .none (.ref C)))
    (r1_Pparse : PySem.W.recIn K p_Pparse "classmethod" = some (.ref f_Pparse :: r_Pparse))
    (i_Pparse : PySem.W.fnIn K f_Pparse = true)
    (l_Pparse : K.lookup f_Pparse = some ⟨oc_Pparse, od_Pparse, .func (PySem.W.fnOf "parse" "Polygon.parse" (defArgs s_Polygon_parse) (defBody s_Polygon_parse) (defScope s_Polygon_parse) .none kV_Pparse dc_Pparse pm_Pparse an_Pparse cd_Pparse ct_Pparse), sl_Pparse⟩)
    (c_Pparse : PySem.W.codeIn K cd_Pparse "Polygon.parse" = true)
    (k_Pparse : PySem.W.keepIn K (.ref f_Pparse) = true)
    (pg : PySem.W.plainGet K C Str.empty = true)
    (hd : PySem.W.hasDictIn K C = true)
    (po : PySem.W.plainOver K C = true)
    (sa : PySem.W.findIn K (.ref C) "__setattr__" = some (some (.builtin "object.__setattr__")))
    (mk : PySem.W.makesIn K C = true)
    (kc : PySem.W.keepIn K (.ref C) = true)
    (nP : PySem.W.findIn K (.ref C) "points" = some none)
    (ne : PySem.W.findIn K (.ref C) "__ne__" = some (some (.builtin "object.__ne__")))
    (ob : PySem.W.mroIn K C (.type "object") = some true)
    (ha : PySem.W.findIn K (.ref C) "__class__" = some (some (.builtin "object.__class__")))
    (hn : PySem.W.specialIn K (.builtin "object.__class__") "__get__" = some (some (.builtin "getset_descriptor.__get__")))
    (htk : PySem.W.takesIn K (.builtin "object.__class__") = some true)
    (most : PySem.W.findCls K (.ref C) (.type "type") "MOST_JOINTS" = some (.val (.int 8 mt)))
    (least : PySem.W.nsIn K mainGlobals "LEAST_JOINTS" = some (some (.int 3 lt)))
    (z_len : PySem.W.nsIn K mainGlobals "len" = some none)
    (z_max : PySem.W.nsIn K mainGlobals "max" = some none)
    (z_min : PySem.W.nsIn K mainGlobals "min" = some none)
    (z_range : PySem.W.nsIn K mainGlobals "range" = some none)
    (z_enumerate : PySem.W.nsIn K mainGlobals "enumerate" = some none)
    (z_zip : PySem.W.nsIn K mainGlobals "zip" = some none)
    (z_list : PySem.W.nsIn K mainGlobals "list" = some none)
    (z_tuple : PySem.W.nsIn K mainGlobals "tuple" = some none)
    (z_int : PySem.W.nsIn K mainGlobals "int" = some none)
    (z_str : PySem.W.nsIn K mainGlobals "str" = some none)
    (z_sum : PySem.W.nsIn K mainGlobals "sum" = some none)
    (z_isinstance : PySem.W.nsIn K mainGlobals "isinstance" = some none)
    (z_any : PySem.W.nsIn K mainGlobals "any" = some none)
    (z_repr : PySem.W.nsIn K mainGlobals "repr" = some none)
    (g_WE : PySem.W.nsIn K mainGlobals "WalkError" = some (some (.ref WE)))
    (l_WE : K.lookup WE = some (excClassObj nm_WE q_WE WE N_WE bs_WE bm_WE hd_WE sn_WE su_WE ab_WE co_WE dd_WE k0_WE k1_WE k2_WE k3_WE k5_WE id_WE))
    (i_WE : PySem.W.findIn K (.ref WE) "__init__" = some (some (.builtin "ValueError.__init__")))
    (ex_WE : PySem.W.subIn K (.ref WE) (.type "BaseException") = some true)
    (h_WE : PySem.W.hasDictIn K WE = true)
    (t_WE : PySem.W.typeIn K (.ref WE) = some (.type "type"))
    (z_super : PySem.W.nsIn K mainGlobals "super" = some none)
    (tpA : PySem.W.nsIn K cStatics "thirdparty.any" = some none)
    (g_BP : PySem.W.nsIn K mainGlobals "BadPolygon" = some (some (.ref BP)))
    (l_BP : K.lookup BP = some (excClassObj nm_BP q_BP BP N_BP bs_BP (.ref WE :: bm_WE) true sn_BP su_BP ab_BP co_BP dd_BP k0_BP k1_BP k2_BP k3_BP k5_BP "ValueError.__new__"))
    (sa_BP : PySem.W.findIn K (.ref BP) "__setattr__" = some (some (.builtin "object.__setattr__")))
    (ex_BP : PySem.W.subIn K (.ref BP) (.type "BaseException") = some true)
    (t_BP : PySem.W.typeIn K (.ref BP) = some (.type "type"))
    (k_BP : PySem.W.keepIn K (.ref BP) = true)
    (i_BP : PySem.W.findIn K (.ref BP) "__init__" = some (some (.ref f_BP)))
    (ti_BP : PySem.W.typeIn K (.ref f_BP) = some (.type "function"))
    (fn_BP : K.lookup f_BP = some ⟨oc_BP, od_BP, .func (PySem.W.ksFn "__init__" "BadPolygon.__init__" (defArgs si_BadPolygon) (defBody si_BadPolygon) (defScope si_BadPolygon) .none kV_BP dc_BP pm_BP an_BP (.ref cda_BP) ct_BP cc_BP), sl_BP⟩)
    (co_BP : PySem.W.codeIn K (.ref cda_BP) "BadPolygon.__init__" = true)
    (dcda_BP : K.lookup cda_BP = some ⟨ccl_BP, cdd_BP, .fields vs_BP, ccs_BP⟩)
    (dcc_BP : K.lookup cc_BP = some ⟨cl_BP, cld_BP, .cell (some (.ref BP)), csl_BP⟩)
    (iv_BP : PySem.W.subIn K (.ref BP) (.type "ValueError") = some true)
    (nf_BP : PySem.W.findIn K (.ref BP) "index" = some none)
    (ga_BP : PySem.W.findIn K (.ref BP) "__getattribute__" = some (some (.builtin "BaseException.__getattribute__")))
    (gg_BP : PySem.W.findIn K (.ref BP) "__getattr__" = some none)
    (h_BP : PySem.W.hasDictIn K BP = true)
    (ic_BP : PySem.W.isClsIn K BP = true)
    (ha_BP : PySem.W.findIn K (.ref BP) "__class__" = some (some (.builtin "object.__class__")))
    (hm_BP : PySem.W.mroIn K BP (.type "object") = some true)
    (sw_BP : PySem.W.subIn K (.ref BP) (.ref WE) = some true)
    (ss_BP : PySem.W.subIn K (.ref BP) (.ref BP) = some true)
    (g_BT : PySem.W.nsIn K mainGlobals "BadText" = some (some (.ref BT)))
    (l_BT : K.lookup BT = some (excClassObj nm_BT q_BT BT N_BT bs_BT (.ref WE :: bm_WE) true sn_BT su_BT ab_BT co_BT dd_BT k0_BT k1_BT k2_BT k3_BT k5_BT "ValueError.__new__"))
    (sa_BT : PySem.W.findIn K (.ref BT) "__setattr__" = some (some (.builtin "object.__setattr__")))
    (ex_BT : PySem.W.subIn K (.ref BT) (.type "BaseException") = some true)
    (t_BT : PySem.W.typeIn K (.ref BT) = some (.type "type"))
    (k_BT : PySem.W.keepIn K (.ref BT) = true)
    (i_BT : PySem.W.findIn K (.ref BT) "__init__" = some (some (.ref f_BT)))
    (ti_BT : PySem.W.typeIn K (.ref f_BT) = some (.type "function"))
    (fn_BT : K.lookup f_BT = some ⟨oc_BT, od_BT, .func (PySem.W.ksFn "__init__" "BadText.__init__" (defArgs si_BadText) (defBody si_BadText) (defScope si_BadText) .none kV_BT dc_BT pm_BT an_BT (.ref cda_BT) ct_BT cc_BT), sl_BT⟩)
    (co_BT : PySem.W.codeIn K (.ref cda_BT) "BadText.__init__" = true)
    (dcda_BT : K.lookup cda_BT = some ⟨ccl_BT, cdd_BT, .fields vs_BT, ccs_BT⟩)
    (dcc_BT : K.lookup cc_BT = some ⟨cl_BT, cld_BT, .cell (some (.ref BT)), csl_BT⟩)
    (iv_BT : PySem.W.subIn K (.ref BT) (.type "ValueError") = some true)
    (nf_BT : PySem.W.findIn K (.ref BT) "index" = some none)
    (ga_BT : PySem.W.findIn K (.ref BT) "__getattribute__" = some (some (.builtin "BaseException.__getattribute__")))
    (gg_BT : PySem.W.findIn K (.ref BT) "__getattr__" = some none)
    (h_BT : PySem.W.hasDictIn K BT = true)
    (ic_BT : PySem.W.isClsIn K BT = true)
    (ha_BT : PySem.W.findIn K (.ref BT) "__class__" = some (some (.builtin "object.__class__")))
    (hm_BT : PySem.W.mroIn K BT (.type "object") = some true)
    (sw_BT : PySem.W.subIn K (.ref BT) (.ref WE) = some true)
    (ss_BT : PySem.W.subIn K (.ref BT) (.ref BT) = some true)
    (g_NC : PySem.W.nsIn K mainGlobals "NotClosed" = some (some (.ref NC)))
    (ic_NC : PySem.W.isClsIn K NC = true)
    (t_NC : PySem.W.typeIn K (.ref NC) = some (.type "type"))
    (g_BJ : PySem.W.nsIn K mainGlobals "BadJoint" = some (some (.ref BJ)))
    (ic_BJ : PySem.W.isClsIn K BJ = true)
    (t_BJ : PySem.W.typeIn K (.ref BJ) = some (.type "type"))
    (n_BP_BT : PySem.W.subIn K (.ref BP) (.ref BT) = some false)
    (n_BP_NC : PySem.W.subIn K (.ref BP) (.ref NC) = some false)
    (n_BP_BJ : PySem.W.subIn K (.ref BP) (.ref BJ) = some false)
    (n_BT_BP : PySem.W.subIn K (.ref BT) (.ref BP) = some false)
    (n_BT_NC : PySem.W.subIn K (.ref BT) (.ref NC) = some false)
    (n_BT_BJ : PySem.W.subIn K (.ref BT) (.ref BJ) = some false)
    (rv_WE : PySem.HandSPX.refsVE bm_WE = true)
    (topS : (l.prog.main.scope.names.lookup ("super" : Str)).isSome = false)
    (v2_BP : vs_BP[2]? = some (.str fi_BP tf_BP))
    (vf_BP : ((l.prog.main.file : Str) == fi_BP) = true)
    (v2_BT : vs_BT[2]? = some (.str fi_BT tf_BT))
    (vf_BT : ((l.prog.main.file : Str) == fi_BT) = true) :
    ∀ base : Heap, K.In base → base.Ns mainGlobals mg → FnG l.prog w K mg base CX0 8 fa (spLaw K) := by
  have e := hfa.symm.trans (PySem.W.mg_of X G a_law)
  cases e
  have cl : Cls K C := ⟨pg, hd, po, sa⟩
  have T : Tx K mg C := ⟨PySem.W.mg_none_of X G z_len, PySem.W.mg_none_of X G z_max, PySem.W.mg_none_of X G z_min, PySem.W.mg_none_of X G z_range, PySem.W.mg_none_of X G z_enumerate, PySem.W.mg_none_of X G z_zip, PySem.W.mg_none_of X G z_list, PySem.W.mg_none_of X G z_tuple, PySem.W.mg_none_of X G z_int, PySem.W.mg_none_of X G z_str, PySem.W.mg_none_of X G z_sum, PySem.W.mg_none_of X G z_isinstance, PySem.W.mg_none_of X G z_any, PySem.W.mg_none_of X G z_repr, PySem.W.mg_of X G aC, ⟨lt, PySem.W.mg_of X G least⟩, cl, nP, ⟨cl, ha, hn, htk, ob⟩, if_pos (beq_self_eq_true _), ⟨.type "type", _, ⟨rd, ga⟩, ⟨most, ⟨_, rfl⟩⟩⟩⟩
  have o_BP : OexC K BP := ⟨⟨_, _, _, _, _, _, _, _, _, _, _, _, _, _, _, l_BP, rv_WE⟩, sa_BP, ex_BP, t_BP, k_BP⟩
  have x_BP : XfC K BP := ⟨ga_BP, gg_BP, ex_BP, h_BP⟩
  have K_BP : ExcK K BP := ⟨x_BP, ic_BP, ha_BP, hn, htk, hm_BP⟩
  have S_BP : Sup1 l.prog K mg "BadPolygon" "index" BP := ⟨PySem.W.mg_of X G g_BP, PySem.W.mg_none_of X G z_super, f_BP, cc_BP, cda_BP, _, _, _, _, ⟨o_BP, i_BP, ti_BP, ⟨_, _, _, _, _, _, _, _, _, fn_BP, fun us hl => match us, hl with | [_, _], _ => rfl⟩, co_BP, ⟨_, _, _, _, _, _, dcda_BP, v2_BP, vf_BP⟩, ⟨_, _, _, dcc_BP⟩, tpA, up_of l_BP l_WE i_WE, iv_BP, nf_BP, topS⟩, sT_BadPolygon⟩
  have E_BP : ExF l.prog K mg "BadPolygon" "index" BP WE := ⟨S_BP, K_BP, nf_BP, PySem.W.exm_ref ex_WE h_WE t_WE sw_BP⟩
  have o_BT : OexC K BT := ⟨⟨_, _, _, _, _, _, _, _, _, _, _, _, _, _, _, l_BT, rv_WE⟩, sa_BT, ex_BT, t_BT, k_BT⟩
  have x_BT : XfC K BT := ⟨ga_BT, gg_BT, ex_BT, h_BT⟩
  have K_BT : ExcK K BT := ⟨x_BT, ic_BT, ha_BT, hn, htk, hm_BT⟩
  have S_BT : Sup1 l.prog K mg "BadText" "index" BT := ⟨PySem.W.mg_of X G g_BT, PySem.W.mg_none_of X G z_super, f_BT, cc_BT, cda_BT, _, _, _, _, ⟨o_BT, i_BT, ti_BT, ⟨_, _, _, _, _, _, _, _, _, fn_BT, fun us hl => match us, hl with | [_, _], _ => rfl⟩, co_BT, ⟨_, _, _, _, _, _, dcda_BT, v2_BT, vf_BT⟩, ⟨_, _, _, dcc_BT⟩, tpA, up_of l_BT l_WE i_WE, iv_BT, nf_BT, topS⟩, sT_BadText⟩
  have E_BT : ExF l.prog K mg "BadText" "index" BT WE := ⟨S_BT, K_BT, nf_BT, PySem.W.exm_ref ex_WE h_WE t_WE sw_BT⟩
  have N_BP_BT : PySem.W.kitOne K (.ref BP) (.ref BT) = some false := kit_ref ic_BT t_BT n_BP_BT ss_BP
  have N_BP_NC : PySem.W.kitOne K (.ref BP) (.ref NC) = some false := kit_ref ic_NC t_NC n_BP_NC ss_BP
  have N_BP_BJ : PySem.W.kitOne K (.ref BP) (.ref BJ) = some false := kit_ref ic_BJ t_BJ n_BP_BJ ss_BP
  have N_BT_BP : PySem.W.kitOne K (.ref BT) (.ref BP) = some false := kit_ref ic_BP t_BP n_BT_BP ss_BT
  have N_BT_NC : PySem.W.kitOne K (.ref BT) (.ref NC) = some false := kit_ref ic_NC t_NC n_BT_NC ss_BT
  have N_BT_BJ : PySem.W.kitOne K (.ref BT) (.ref BJ) = some false := kit_ref ic_BJ t_BJ n_BT_BJ ss_BT
  have XT0 : XT3 l.prog K mg WE BP BT NC BJ := ⟨PySem.W.mg_of X G g_WE, PySem.W.mg_of X G g_NC, PySem.W.mg_of X G g_BJ, E_BP, E_BT, N_BP_BT, N_BP_NC, N_BP_BJ, N_BT_BP, N_BT_NC, N_BT_BJ⟩
  intro base _ _
  have q_is_count : Cal l.prog w K mg base 1 "is_count" (spCount K) := ⟨⟨f_is_count, _, ["word"], ok_is_count (fun_mk (st := s_is_count) l_is_count c_is_count k_is_count) T , PySem.W.mg_of X G a_is_count, k_is_count, ((fun_mk (st := s_is_count) l_is_count c_is_count k_is_count).binds (ps := ["word"]) fun _ _ _ _ _ _ us hl => match us, hl with | [_], _ => rfl)⟩⟩
  have q_is_number : Cal l.prog w K mg base 2 "is_number" (spNumber K) := ⟨⟨f_is_number, _, ["word"], ok_is_number (fun_mk (st := s_is_number) l_is_number c_is_number k_is_number) T q_is_count, PySem.W.mg_of X G a_is_number, k_is_number, ((fun_mk (st := s_is_number) l_is_number c_is_number k_is_number).binds (ps := ["word"]) fun _ _ _ _ _ _ us hl => match us, hl with | [_], _ => rfl)⟩⟩
  have q_read_pointsX : CalX l.prog w K mg base 3 "read_points" (spReadX K BT) := ⟨⟨f_read_points, _, ["text"], ok_read_points (fun_mk (st := s_read_points) l_read_points c_read_points k_read_points) T q_is_number S_BT, PySem.W.mg_of X G a_read_points, k_read_points, ((fun_mk (st := s_read_points) l_read_points c_read_points k_read_points).binds (ps := ["text"]) fun _ _ _ _ _ _ us hl => match us, hl with | [_], _ => rfl)⟩⟩
  have q_check_pairsX : CalX l.prog w K mg base 3 "check_pairs" (spPairsX K BP) := ⟨⟨f_check_pairs, _, ["pairs"], ok_check_pairsX (fun_mk (st := s_check_pairs) l_check_pairs c_check_pairs k_check_pairs) T S_BP, PySem.W.mg_of X G a_check_pairs, k_check_pairs, ((fun_mk (st := s_check_pairs) l_check_pairs c_check_pairs k_check_pairs).binds (ps := ["pairs"]) fun _ _ _ _ _ _ us hl => match us, hl with | [_], _ => rfl)⟩⟩
  have q_mkX : MkX l.prog w K mg base 4 C "Polygon" (spInitX K C BP) := ⟨PySem.W.mg_of X G aC, f_Pinit, ⟨mk, a_Pinit, i_Pinit, kc⟩, ok_Polygon_init (fun_mk (st := s_Polygon_init) l_Pinit c_Pinit k_Pinit) T q_check_pairsX⟩
  have q_parseX : CmtX l.prog w K mg base 6 C "parse" (spParseX K C BP BT) := ⟨⟨.type "type", p_Pparse, f_Pparse, ⟨rd, ga⟩, ⟨a_Pparse, ⟨_, r1_Pparse⟩, i_Pparse⟩, (ok_parseX (fun_mk (st := s_Polygon_parse) l_Pparse c_Pparse k_Pparse) T q_read_pointsX q_mkX).raw0 ((fun_mk (st := s_Polygon_parse) l_Pparse c_Pparse k_Pparse).binds (ps := ["cls", "text"]) fun _ _ _ _ _ _ us hl => match us, hl with | [_, _], _ => rfl)⟩⟩
  have q__law_source : Cal l.prog w K mg base 1 "_law_source" (spSource K) := ⟨⟨f__law_source, _, ["script", "index"], ok__law_source (fun_mk (st := s__law_source) l__law_source c__law_source k__law_source) T , PySem.W.mg_of X G a__law_source, k__law_source, ((fun_mk (st := s__law_source) l__law_source c__law_source k__law_source).binds (ps := ["script", "index"]) fun _ _ _ _ _ _ us hl => match us, hl with | [_, _], _ => rfl)⟩⟩
  have q__law_draw : Cal l.prog w K mg base 1 "_law_draw" (spDraw K) := ⟨⟨f__law_draw, _, ["source", "bound"], ok__law_draw (fun_mk (st := s__law_draw) l__law_draw c__law_draw k__law_draw) T , PySem.W.mg_of X G a__law_draw, k__law_draw, ((fun_mk (st := s__law_draw) l__law_draw c__law_draw k__law_draw).binds (ps := ["source", "bound"]) fun _ _ _ _ _ _ us hl => match us, hl with | [_, _], _ => rfl)⟩⟩
  have q__law_tried : CalX l.prog w K mg base 6 "_law_tried" (spTried K C BP) := ⟨⟨f__law_tried, _, ["t"], ok__law_tried (fun_mk (st := s__law_tried) l__law_tried c__law_tried k__law_tried) T q_mkX, PySem.W.mg_of X G a__law_tried, k__law_tried, ((fun_mk (st := s__law_tried) l__law_tried c__law_tried k__law_tried).binds (ps := ["t"]) fun _ _ _ _ _ _ us hl => match us, hl with | [_], _ => rfl)⟩⟩
  have q__law_integer : Cal l.prog w K mg base 1 "_law_integer" (spInteger K) := ⟨⟨f__law_integer, _, ["text"], ok__law_integer (fun_mk (st := s__law_integer) l__law_integer c__law_integer k__law_integer) T , PySem.W.mg_of X G a__law_integer, k__law_integer, ((fun_mk (st := s__law_integer) l__law_integer c__law_integer k__law_integer).binds (ps := ["text"]) fun _ _ _ _ _ _ us hl => match us, hl with | [_], _ => rfl)⟩⟩
  have q__law_point : Cal l.prog w K mg base 2 "_law_point" (spPoint K) := ⟨⟨f__law_point, _, ["part"], ok__law_point (fun_mk (st := s__law_point) l__law_point c__law_point k__law_point) T q__law_integer, PySem.W.mg_of X G a__law_point, k__law_point, ((fun_mk (st := s__law_point) l__law_point c__law_point k__law_point).binds (ps := ["part"]) fun _ _ _ _ _ _ us hl => match us, hl with | [_], _ => rfl)⟩⟩
  have q_due3 : Cal l.prog w K mg base 1 "_law_due" (spDue3 K) := ⟨⟨f__law_due, _, ["points"], ok_due3 (fun_mk (st := s__law_due) l__law_due c__law_due k__law_due) T , PySem.W.mg_of X G a__law_due, k__law_due, ((fun_mk (st := s__law_due) l__law_due c__law_due k__law_due).binds (ps := ["points"]) fun _ _ _ _ _ _ us hl => match us, hl with | [_], _ => rfl)⟩⟩
  have q__law_due_text : Cal l.prog w K mg base 3 "_law_due_text" (spDueT K) := ⟨⟨f__law_due_text, _, ["text"], ok__law_due_text (fun_mk (st := s__law_due_text) l__law_due_text c__law_due_text k__law_due_text) T q__law_point q_due3, PySem.W.mg_of X G a__law_due_text, k__law_due_text, ((fun_mk (st := s__law_due_text) l__law_due_text c__law_due_text k__law_due_text).binds (ps := ["text"]) fun _ _ _ _ _ _ us hl => match us, hl with | [_], _ => rfl)⟩⟩
  have q_told3 : Cal l.prog w K mg base 7 "_law_told" (spTold3 K) := ⟨⟨f__law_told, _, ["thing", "way"], ok_told3 (fun_mk (st := s__law_told) l__law_told c__law_told k__law_told) T XT0 q_parseX q__law_tried, PySem.W.mg_of X G a__law_told, k__law_told, ((fun_mk (st := s__law_told) l__law_told c__law_told k__law_told).binds (ps := ["thing", "way"]) fun _ _ _ _ _ _ us hl => match us, hl with | [_, _], _ => rfl)⟩⟩
  exact ok_law (fun_mk (st := s_law) l_law c_law k_law) T q__law_source q__law_draw q_told3 q_due3 q__law_due_text
theorem walk {l : PySem.W.OpenLaw} {q : Program} {loose : List Str} {XP : (Str → Option Value) → Heap → Prop} {YP : World → Heap → Prop} {d : DefRec} {K : Params → PySem.W.Frag} (hn : l.most = some 63) (hdf : d.params.defaults = [])
    (hY : ∀ (w : World) (h : Heap), YP w h → (K w.params).In h)
    (F : ∀ (w : World) (mg : Str → Option Value) (fa : Addr) (h : Heap), (K w.params).In h → h.Ns mainGlobals mg → mg d.name = some (.ref fa) → ∀ base : Heap, (K w.params).In base → base.Ns mainGlobals mg → FnG l.prog w (K w.params) mg base CX0 8 fa (spLaw (K w.params))) :
    PySem.W.WalkO q loose XP YP l.row.toRowW d [] (fun f vs => PySem.call f vs) :=
  top_walk (n := 63) (k := 8) (CX := fun _ => CX0) (sp := fun w => spLaw (K w.params)) hn (by decide) hdf ⟨rfl, by decide, by decide⟩ hY F (fun _ H a ns hl hS => ⟨ns, fun _ => none, H, fun _ => none, [.frl (ns.map Dt.int)], ⟨(fun a o e => nomatch e), (fun a o e => nomatch e), Ex.refl H, (fun a c e => nomatch e)⟩, .one (.frl hS RpAll.ofInts), ⟨rfl, hl⟩, fun v d M' H' H2 hp k e r => by
    have hp' : d = .bl true := hp
    rw [hp'] at r
    exact r.bl_inv⟩) fun _ _ _ _ _ z => z
end Wk
/-! ## P60 -/
open PySem PySem.W PyProof.Rows in
set_option maxRecDepth 100000 in
set_option maxHeartbeats 0 in
theorem PySem.Challenge.cw_walkagon_k03_invalid_polygons_holds : PySem.Challenge.rw_walkagon_k03_invalid_polygons.Holds := by
  w_on; o_law; k_head; (case hw => w_witness2)
  k_fill
  refine Wk.walk (l := PySem.Challenge.rw_walkagon_k03_invalid_polygons) rfl rfl (fun w h Y => PySem.W.kIn_of Y) ?F
  case F =>
    intro w mg fa h KX G hmg
    refine' Wk.all_mk (l := PySem.Challenge.rw_walkagon_k03_invalid_polygons) KX G hmg ?a_is_count ?l_is_count ?c_is_count ?k_is_count ?a_is_number ?l_is_number ?c_is_number ?k_is_number ?a_read_points ?l_read_points ?c_read_points ?k_read_points ?a_check_pairs ?l_check_pairs ?c_check_pairs ?k_check_pairs ?a__law_source ?l__law_source ?c__law_source ?k__law_source ?a__law_draw ?l__law_draw ?c__law_draw ?k__law_draw ?a__law_tried ?l__law_tried ?c__law_tried ?k__law_tried ?a__law_integer ?l__law_integer ?c__law_integer ?k__law_integer ?a__law_point ?l__law_point ?c__law_point ?k__law_point ?a__law_due ?l__law_due ?c__law_due ?k__law_due ?a__law_due_text ?l__law_due_text ?c__law_due_text ?k__law_due_text ?a__law_told ?l__law_told ?c__law_told ?k__law_told ?a_law ?l_law ?c_law ?k_law ?aC ?a_Pinit ?i_Pinit ?l_Pinit ?c_Pinit ?k_Pinit ?rd ?ga ?a_Pparse ?r1_Pparse ?i_Pparse ?l_Pparse ?c_Pparse ?k_Pparse ?pg ?hd ?po ?sa ?mk ?kc ?nP ?ne ?ob ?ha ?hn ?htk ?most ?least ?z_len ?z_max ?z_min ?z_range ?z_enumerate ?z_zip ?z_list ?z_tuple ?z_int ?z_str ?z_sum ?z_isinstance ?z_any ?z_repr ?g_WE ?l_WE ?i_WE ?ex_WE ?h_WE ?t_WE ?z_super ?tpA ?g_BP ?l_BP ?sa_BP ?ex_BP ?t_BP ?k_BP ?i_BP ?ti_BP ?fn_BP ?co_BP ?dcda_BP ?dcc_BP ?iv_BP ?nf_BP ?ga_BP ?gg_BP ?h_BP ?ic_BP ?ha_BP ?hm_BP ?sw_BP ?ss_BP ?g_BT ?l_BT ?sa_BT ?ex_BT ?t_BT ?k_BT ?i_BT ?ti_BT ?fn_BT ?co_BT ?dcda_BT ?dcc_BT ?iv_BT ?nf_BT ?ga_BT ?gg_BT ?h_BT ?ic_BT ?ha_BT ?hm_BT ?sw_BT ?ss_BT ?g_NC ?ic_NC ?t_NC ?g_BJ ?ic_BJ ?t_BJ ?n_BP_BT ?n_BP_NC ?n_BP_BJ ?n_BT_BP ?n_BT_NC ?n_BT_BJ ?rv_WE ?topS ?v2_BP ?vf_BP ?v2_BT ?vf_BT
    (case a_is_count => k_is)
    (case l_is_count => k_is)
    (case c_is_count => k_is)
    (case k_is_count => k_is)
    (case a_is_number => k_is)
    (case l_is_number => k_is)
    (case c_is_number => k_is)
    (case k_is_number => k_is)
    (case a_read_points => k_is)
    (case l_read_points => k_is)
    (case c_read_points => k_is)
    (case k_read_points => k_is)
    (case a_check_pairs => k_is)
    (case l_check_pairs => k_is)
    (case c_check_pairs => k_is)
    (case k_check_pairs => k_is)
    (case a__law_source => k_is)
    (case l__law_source => k_is)
    (case c__law_source => k_is)
    (case k__law_source => k_is)
    (case a__law_draw => k_is)
    (case l__law_draw => k_is)
    (case c__law_draw => k_is)
    (case k__law_draw => k_is)
    (case a__law_tried => k_is)
    (case l__law_tried => k_is)
    (case c__law_tried => k_is)
    (case k__law_tried => k_is)
    (case a__law_integer => k_is)
    (case l__law_integer => k_is)
    (case c__law_integer => k_is)
    (case k__law_integer => k_is)
    (case a__law_point => k_is)
    (case l__law_point => k_is)
    (case c__law_point => k_is)
    (case k__law_point => k_is)
    (case a__law_due => k_is)
    (case l__law_due => k_is)
    (case c__law_due => k_is)
    (case k__law_due => k_is)
    (case a__law_due_text => k_is)
    (case l__law_due_text => k_is)
    (case c__law_due_text => k_is)
    (case k__law_due_text => k_is)
    (case a__law_told => k_is)
    (case l__law_told => k_is)
    (case c__law_told => k_is)
    (case k__law_told => k_is)
    (case a_law => k_is)
    (case l_law => k_is)
    (case c_law => k_is)
    (case k_law => k_is)
    (case aC => k_is)
    (case a_Pinit => k_is)
    (case i_Pinit => k_is)
    (case l_Pinit => k_is)
    (case c_Pinit => k_is)
    (case k_Pinit => k_is)
    (case rd => k_is)
    (case ga => k_is)
    (case a_Pparse => k_is)
    (case r1_Pparse => k_is)
    (case i_Pparse => k_is)
    (case l_Pparse => k_is)
    (case c_Pparse => k_is)
    (case k_Pparse => k_is)
    (case pg => k_is)
    (case hd => k_is)
    (case po => k_is)
    (case sa => k_is)
    (case mk => k_is)
    (case kc => k_is)
    (case nP => k_is)
    (case ne => k_is)
    (case ob => k_is)
    (case ha => k_is)
    (case hn => k_is)
    (case htk => k_is)
    (case most => k_is)
    (case least => k_is)
    (case z_len => k_is)
    (case z_max => k_is)
    (case z_min => k_is)
    (case z_range => k_is)
    (case z_enumerate => k_is)
    (case z_zip => k_is)
    (case z_list => k_is)
    (case z_tuple => k_is)
    (case z_int => k_is)
    (case z_str => k_is)
    (case z_sum => k_is)
    (case z_isinstance => k_is)
    (case z_any => k_is)
    (case z_repr => k_is)
    (case g_WE => k_is)
    (case l_WE => k_is)
    (case i_WE => k_is)
    (case ex_WE => k_is)
    (case h_WE => k_is)
    (case t_WE => k_is)
    (case z_super => k_is)
    (case tpA => k_is)
    (case g_BP => k_is)
    (case l_BP => k_is)
    (case sa_BP => k_is)
    (case ex_BP => k_is)
    (case t_BP => k_is)
    (case k_BP => k_is)
    (case i_BP => k_is)
    (case ti_BP => k_is)
    (case fn_BP => k_is)
    (case co_BP => k_is)
    (case dcda_BP => k_is)
    (case dcc_BP => k_is)
    (case iv_BP => k_is)
    (case nf_BP => k_is)
    (case ga_BP => k_is)
    (case gg_BP => k_is)
    (case h_BP => k_is)
    (case ic_BP => k_is)
    (case ha_BP => k_is)
    (case hm_BP => k_is)
    (case sw_BP => k_is)
    (case ss_BP => k_is)
    (case g_BT => k_is)
    (case l_BT => k_is)
    (case sa_BT => k_is)
    (case ex_BT => k_is)
    (case t_BT => k_is)
    (case k_BT => k_is)
    (case i_BT => k_is)
    (case ti_BT => k_is)
    (case fn_BT => k_is)
    (case co_BT => k_is)
    (case dcda_BT => k_is)
    (case dcc_BT => k_is)
    (case iv_BT => k_is)
    (case nf_BT => k_is)
    (case ga_BT => k_is)
    (case gg_BT => k_is)
    (case h_BT => k_is)
    (case ic_BT => k_is)
    (case ha_BT => k_is)
    (case hm_BT => k_is)
    (case sw_BT => k_is)
    (case ss_BT => k_is)
    (case g_NC => k_is)
    (case ic_NC => k_is)
    (case t_NC => k_is)
    (case g_BJ => k_is)
    (case ic_BJ => k_is)
    (case t_BJ => k_is)
    (case n_BP_BT => k_is)
    (case n_BP_NC => k_is)
    (case n_BP_BJ => k_is)
    (case n_BT_BP => k_is)
    (case n_BT_NC => k_is)
    (case n_BT_BJ => k_is)
    (case rv_WE => decide +kernel)
    (case topS => rfl)
    (case v2_BP => rfl)
    (case vf_BP => decide +kernel)
    (case v2_BT => rfl)
    (case vf_BT => decide +kernel)
#print axioms PySem.Challenge.cw_walkagon_k03_invalid_polygons_holds
