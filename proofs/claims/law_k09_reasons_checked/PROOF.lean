import PyProof.Rows.All
import Wide.All
import OpenK.AllK
import Wide.FinOn
import HandS.ForMost
import HandS.Wide
import HandS.Star
import HandS.ClsMeth
import HandS.Property
import HandS.OwnEq
import HandS.TupAny
import HandS.Zip
import HandS.FStr
import HandS.Walk
import HandS.Evl
import HandS.ExcInit
import HandS.TupMul
import HandS.Gcd
import KE.GoesMore
import KE.KDictZip
import HandS.Style
import HandS.IsInst
import HandS.MethStar
import HandS.Defaults
import HandS.MakeKw
import KE.KRevSl
import PyProof.ReprRoads
import KE.KExcSuper
import HandS.FStrTup
import KE.KExcIs
import HandS.ExcField
import HandS.ExcIs
import HandS.WordsExc
import HandS.GenList
import HandS.Conv
import HandS.SetBool
import HandS.Strs
import HandS.Small
import HandS.WideMore
import HandS.ExcOwn
import HandS.Deep
import PySem.Challenge.RW_walkagon_k09_reasons_checked
import HandS.Head2
import HandS.HeadHook1
import HandS.Head3
import HandS.ReplaceLit
import HandS.SortRule
import KE.DataFind
import KE.DataMinMax
import KE.KSuper
import HandS.Nested
import HandS.ExcValue
import HandS.IterVal
import HandS.MakeKwOnly
set_option Elab.async false
set_option linter.all false
set_option maxRecDepth 100000
set_option maxHeartbeats 4000000
set_option exponentiation.threshold 3000
namespace Wk
open PySem L2 Evl
inductive Dt where
  | non
  | bl (b : Bool)
  | int (i : Int)
  | str (x : Str)
  | lst (xs : List Dt)
  | frl (xs : List Dt)
  | tup (xs : List Dt)
  | obj (C : Addr) (fs : List (Str × Dt))
  | raw (v : V)
  | exc (a : Addr) (dd : Option Addr) (fs : List (Str × Dt))
  | exv (C : Addr) (fs : List (Str × Dt))
  | ftp (xs : List Dt)
inductive Cell where
  | lst (xs : List Dt)
  | ins (C : Addr) (fs : List (Str × Dt))
abbrev Mm := Addr → Option Cell
abbrev Rho := List (Option Dt)
def put (M : Mm) (a : Addr) (c : Cell) : Mm := fun b => if b = a then some c else M b
def del (M : Mm) (a : Addr) : Mm := fun b => if b = a then none else M b
theorem put_same {M : Mm} {a : Addr} {c : Cell} : put M a c a = some c := by unfold put; rw [if_pos rfl]
theorem put_ne {M : Mm} {a b : Addr} {c : Cell} (h : b ≠ a) : put M a c b = M b := by unfold put; rw [if_neg h]
theorem put_put {M : Mm} {a : Addr} {c d : Cell} : put (put M a c) a d = put M a d := by
  funext b
  unfold put
  split <;> rfl
theorem ne_mem {M : Mm} {a b : Addr} {c : Cell} (h : M a = some c) (h' : M b = none) : a ≠ b := fun e => by
  rw [e, h'] at h
  cases h
def Sub (M M' : Mm) : Prop := ∀ a c, M a = some c → M' a = some c
theorem Sub.refl (M : Mm) : Sub M M := fun _ _ h => h
theorem Sub.trans {M1 M2 M3 : Mm} (a : Sub M1 M2) (b : Sub M2 M3) : Sub M1 M3 := fun x c h => b x c (a x c h)
theorem Sub.put {M M' : Mm} {a : Addr} {c : Cell} (s : Sub M M') (h : M a = none) : Sub M (put M' a c) := fun b d e => by
  rw [put_ne (ne_mem e h)]
  exact s b d e
/-- the own dict of an exception, where it has one -/
def XdAt (H : Hp) : Option Addr → List (Str × V) → Prop
  | some d, fs => H d = some (.xd fs)
  | none, fs => fs = []
theorem XdAt.mono {H H' : Hp} {fs : List (Str × V)} : ∀ {d : Option Addr}, XdAt H d fs → Ex H H' → XdAt H' d fs
  | some _, h, e => e _ _ h
  | none, h, _ => h
section
variable (K : PySem.W.Frag)
mutual
inductive Rp (H : Hp) : V → Dt → Prop
  | non : Rp H .non .non
  | bl (b : Bool) : Rp H (.bl b) (.bl b)
  | int (i : Int) : Rp H (.int i) (.int i)
  | str (x : Str) : Rp H (.str x) (.str x)
  | lst {a : Addr} {xs : List V} {ds : List Dt} : H a = some (.lst xs) → RpAll H xs ds → Rp H (.ref a) (.lst ds)
  | frl {a : Addr} {xs : List V} {ds : List Dt} : SqL K H a xs → RpAll H xs ds → Rp H (.ref a) (.frl ds)
  | tup {a : Addr} {xs : List V} {ds : List Dt} : SqT K H a xs → RpAll H xs ds → Rp H (.ref a) (.tup ds)
  | obj {a C dx : Addr} {fs : List (Str × V)} {ds : List (Str × Dt)} : H a = some (.ins C dx fs) → RpFs H fs ds → Rp H (.ref a) (.obj C ds)
  | raw (v : V) : Rp H v (.raw v)
  | exc {a : Addr} {dd : Option Addr} {fs : List (Str × V)} {ds : List (Str × Dt)} : XdAt H dd fs → RpFs H fs ds → Rp H (.ref a) (.exc a dd ds)
  | exv {a C : Addr} {dd : Option Addr} {fs : List (Str × V)} {ds : List (Str × Dt)} : H a = some (exo a C dd) → XdAt H dd fs → RpFs H fs ds → Rp H (.ref a) (.exv C ds)
  | ftp {a : Addr} {o : Obj} {xs : List V} {ds : List Dt} : H a = some (.frz o (.tup xs)) → o.dict = none → o.cls = .type "tuple" → RpAll H xs ds → Rp H (.ref a) (.ftp ds)
inductive RpAll (H : Hp) : List V → List Dt → Prop
  | nil : RpAll H [] []
  | cons {v : V} {vs : List V} {d : Dt} {ds : List Dt} : Rp H v d → RpAll H vs ds → RpAll H (v :: vs) (d :: ds)
inductive RpFs (H : Hp) : List (Str × V) → List (Str × Dt) → Prop
  | nil : RpFs H [] []
  | cons {f : Str} {v : V} {vs : List (Str × V)} {d : Dt} {ds : List (Str × Dt)} : Rp H v d → RpFs H vs ds → RpFs H ((f, v) :: vs) ((f, d) :: ds)
end
end
section
variable {K : PySem.W.Frag} {H H' : Hp}
mutual
theorem Rp.mono (e : Ex H H') : ∀ {v : V} {d : Dt}, Rp K H v d → Rp K H' v d
  | _, _, .non => .non
  | _, _, .bl b => .bl b
  | _, _, .int i => .int i
  | _, _, .str x => .str x
  | _, _, .lst h r => .lst (e _ _ h) (RpAll.mono e r)
  | _, _, .frl h r => .frl (ex_l e h) (RpAll.mono e r)
  | _, _, .tup h r => .tup (ex_t e h) (RpAll.mono e r)
  | _, _, .obj h r => .obj (e _ _ h) (RpFs.mono e r)
  | _, _, .raw v => .raw v
  | _, _, .exc h r => .exc (h.mono e) (RpFs.mono e r)
  | _, _, .exv h1 h r => .exv (e _ _ h1) (h.mono e) (RpFs.mono e r)
  | _, _, .ftp h h2 h3 r => .ftp (e _ _ h) h2 h3 (RpAll.mono e r)
theorem RpAll.mono (e : Ex H H') : ∀ {vs : List V} {ds : List Dt}, RpAll K H vs ds → RpAll K H' vs ds
  | _, _, .nil => .nil
  | _, _, .cons h r => .cons (Rp.mono e h) (RpAll.mono e r)
theorem RpFs.mono (e : Ex H H') : ∀ {vs : List (Str × V)} {ds : List (Str × Dt)}, RpFs K H vs ds → RpFs K H' vs ds
  | _, _, .nil => .nil
  | _, _, .cons h r => .cons (Rp.mono e h) (RpFs.mono e r)
end
theorem RpAll.length : ∀ {vs : List V} {ds : List Dt}, RpAll K H vs ds → vs.length = ds.length
  | _, _, .nil => rfl
  | _, _, .cons _ r => by rw [List.length_cons, List.length_cons, RpAll.length r]
theorem RpAll.get : ∀ {vs : List V} {ds : List Dt} {i : Nat} {d : Dt}, RpAll K H vs ds → ds[i]? = some d → ∃ v, vs[i]? = some v ∧ Rp K H v d
  | _, _, _, _, .nil, e => by simp at e
  | _, _, 0, d, .cons h r, e => by
    simp at e
    subst e
    exact ⟨_, rfl, h⟩
  | _, _, i + 1, d, .cons h r, e => by
    obtain ⟨v, h1, h2⟩ := RpAll.get (i := i) r (by simpa using e)
    exact ⟨v, by simpa using h1, h2⟩
theorem RpAll.getV : ∀ {vs : List V} {ds : List Dt} {i : Nat} {v : V}, RpAll K H vs ds → vs[i]? = some v → ∃ d, ds[i]? = some d ∧ Rp K H v d
  | _, _, _, _, .nil, e => by simp at e
  | _, _, 0, d, .cons h r, e => by
    simp at e
    subst e
    exact ⟨_, rfl, h⟩
  | _, _, i + 1, d, .cons h r, e => by
    obtain ⟨v, h1, h2⟩ := RpAll.getV (i := i) r (by simpa using e)
    exact ⟨v, by simpa using h1, h2⟩
theorem RpAll.append : ∀ {vs ws : List V} {ds es : List Dt}, RpAll K H vs ds → RpAll K H ws es → RpAll K H (vs ++ ws) (ds ++ es)
  | _, _, _, _, .nil, s => s
  | _, _, _, _, .cons h r, s => .cons h (RpAll.append r s)
theorem RpAll.one {v : V} {d : Dt} (h : Rp K H v d) : RpAll K H [v] [d] := .cons h .nil
theorem RpAll.take : ∀ {vs : List V} {ds : List Dt} (n : Nat), RpAll K H vs ds → RpAll K H (vs.take n) (ds.take n)
  | _, _, 0, _ => .nil
  | _, _, _ + 1, .nil => .nil
  | _, _, n + 1, .cons r t => .cons r (RpAll.take n t)
theorem RpAll.drop : ∀ {vs : List V} {ds : List Dt} (n : Nat), RpAll K H vs ds → RpAll K H (vs.drop n) (ds.drop n)
  | _, _, 0, r => r
  | _, _, _ + 1, .nil => .nil
  | _, _, n + 1, .cons _ t => RpAll.drop n t
theorem RpAll.set {v : V} {d : Dt} (h : Rp K H v d) : ∀ {vs : List V} {ds : List Dt} (i : Nat), RpAll K H vs ds → RpAll K H (vs.set i v) (ds.set i d)
  | _, _, _, .nil => .nil
  | _, _, 0, .cons _ t => .cons h t
  | _, _, i + 1, .cons q t => .cons q (RpAll.set h i t)
theorem RpAll.reverse {vs : List V} {ds : List Dt} (h : RpAll K H vs ds) : RpAll K H vs.reverse ds.reverse := by
  have key : ∀ {vs : List V} {ds : List Dt} {ws : List V} {es : List Dt}, RpAll K H vs ds → RpAll K H ws es → RpAll K H (vs.reverseAux ws) (ds.reverseAux es) := by
    intro vs
    induction vs with
    | nil =>
      intro ds ws es h s
      cases h
      exact s
    | cons v vs ih =>
      intro ds ws es h s
      cases h with
      | cons h r =>
        have q := ih r (RpAll.cons h s)
        exact q
  exact key h .nil
theorem RpFs.lookup : ∀ {vs : List (Str × V)} {ds : List (Str × Dt)} {f : Str} {d : Dt}, RpFs K H vs ds → ds.lookup f = some d → ∃ v, vs.lookup f = some v ∧ Rp K H v d
  | _, _, _, _, .nil, e => by cases e
  | _, _, f, d, .cons (f := g) h r, e => by
    rw [List.lookup_cons] at e ⊢
    cases hq : f == g with
    | true =>
      rw [hq] at e
      simp only at e
      cases e
      exact ⟨_, rfl, h⟩
    | false =>
      rw [hq] at e
      exact RpFs.lookup r e
theorem RpFs.lookupN : ∀ {vs : List (Str × V)} {ds : List (Str × Dt)} {f : Str}, RpFs K H vs ds → ds.lookup f = none → vs.lookup f = none
  | _, _, _, .nil, e => rfl
  | _, _, f, .cons (f := g) h r, e => by
    rw [List.lookup_cons] at e ⊢
    cases hq : f == g with
    | true =>
      rw [hq] at e
      cases e
    | false =>
      rw [hq] at e
      exact RpFs.lookupN r e
theorem RpFs.length : ∀ {vs : List (Str × V)} {ds : List (Str × Dt)}, RpFs K H vs ds → vs.length = ds.length
  | _, _, .nil => rfl
  | _, _, .cons _ r => by rw [List.length_cons, List.length_cons, RpFs.length r]
theorem Rp.int_inv {v : V} {i : Int} (h : Rp K H v (.int i)) : v = .int i := by
  cases h
  rfl
theorem Rp.bl_inv {v : V} {b : Bool} (h : Rp K H v (.bl b)) : v = .bl b := by
  cases h
  rfl
theorem Rp.str_inv {v : V} {x : Str} (h : Rp K H v (.str x)) : v = .str x := by
  cases h
  rfl
theorem Rp.non_inv {v : V} (h : Rp K H v .non) : v = .non := by
  cases h
  rfl
theorem Rp.raw_inv {v u : V} (h : Rp K H v (.raw u)) : v = u := by
  cases h
  rfl
theorem Rp.tup_inv {v : V} {ds : List Dt} (h : Rp K H v (.tup ds)) : ∃ a xs, v = .ref a ∧ SqT K H a xs ∧ RpAll K H xs ds := by
  cases h with
  | tup h r => exact ⟨_, _, rfl, h, r⟩
theorem Rp.lst_inv {v : V} {ds : List Dt} (h : Rp K H v (.lst ds)) : ∃ a xs, v = .ref a ∧ H a = some (.lst xs) ∧ RpAll K H xs ds := by
  cases h with
  | lst h r => exact ⟨_, _, rfl, h, r⟩
theorem Rp.frl_inv {v : V} {ds : List Dt} (h : Rp K H v (.frl ds)) : ∃ a xs, v = .ref a ∧ SqL K H a xs ∧ RpAll K H xs ds := by
  cases h with
  | frl h r => exact ⟨_, _, rfl, h, r⟩
theorem Rp.ftp_inv {v : V} {ds : List Dt} (h : Rp K H v (.ftp ds)) : ∃ a o xs, v = .ref a ∧ H a = some (.frz o (.tup xs)) ∧ o.dict = none ∧ o.cls = .type "tuple" ∧ RpAll K H xs ds := by
  cases h with
  | ftp h h2 h3 r => exact ⟨_, _, _, rfl, h, h2, h3, r⟩
theorem Rp.obj_inv {v : V} {C : Addr} {ds : List (Str × Dt)} (h : Rp K H v (.obj C ds)) : ∃ a dx fs, v = .ref a ∧ H a = some (.ins C dx fs) ∧ RpFs K H fs ds := by
  cases h with
  | obj h r => exact ⟨_, _, _, rfl, h, r⟩
theorem RpAll.ints : ∀ {vs : List V} {ns : List Int}, RpAll K H vs (ns.map Dt.int) → vs = ns.map V.int
  | _, [], .nil => rfl
  | _, n :: ns, .cons h r => by rw [h.int_inv, RpAll.ints r] <;> rfl
theorem RpAll.bls : ∀ {vs : List V} {ns : List Bool}, RpAll K H vs (ns.map Dt.bl) → vs = ns.map V.bl
  | _, [], .nil => rfl
  | _, n :: ns, .cons h r => by rw [h.bl_inv, RpAll.bls r] <;> rfl
theorem RpAll.strs : ∀ {vs : List V} {ns : List Str}, RpAll K H vs (ns.map Dt.str) → vs = ns.map V.str
  | _, [], .nil => rfl
  | _, n :: ns, .cons h r => by rw [h.str_inv, RpAll.strs r] <;> rfl
theorem RpAll.ofInts : ∀ {ns : List Int}, RpAll K H (ns.map V.int) (ns.map Dt.int)
  | [] => .nil
  | _ :: _ => .cons (.int _) RpAll.ofInts
theorem RpAll.ofStrs : ∀ {ns : List Str}, RpAll K H (ns.map V.str) (ns.map Dt.str)
  | [] => .nil
  | _ :: _ => .cons (.str _) RpAll.ofStrs
end
/-- a cell stands in the heap -/
def CellAt (K : PySem.W.Frag) (H H1 : Hp) (a : Addr) : Cell → Prop
  | .lst xs => ∃ vs, H1 a = some (.lst vs) ∧ RpAll K H vs xs
  | .ins C fs => ∃ dx vs, H1 a = some (.ins C dx vs) ∧ RpFs K H vs fs
theorem CellAt.mono {K : PySem.W.Frag} {H H' H1 H2 : Hp} {a : Addr} : ∀ {c : Cell}, CellAt K H H1 a c → Ex H H' → H2 a = H1 a → CellAt K H' H2 a c
  | .lst xs, ⟨vs, h, r⟩, e, q => ⟨vs, q.trans h, r.mono e⟩
  | .ins C fs, ⟨dx, vs, h, r⟩, e, q => ⟨dx, vs, q.trans h, r.mono e⟩
theorem CellAt.there {K : PySem.W.Frag} {H H1 : Hp} {a : Addr} : ∀ {c : Cell}, CellAt K H H1 a c → ∃ o, H1 a = some o
  | .lst xs, ⟨vs, h, r⟩ => ⟨_, h⟩
  | .ins C fs, ⟨dx, vs, h, r⟩ => ⟨_, h⟩
/-- B: what stays and is not looked at; H: what is known and stays; H1: the heap; M: what may change -/
structure Ok (K : PySem.W.Frag) (B H H1 : Hp) (M : Mm) : Prop where
  b : Ex B H1
  bh : ∀ a o, B a = some o → H a = none
  h : Ex H H1
  m : ∀ a c, M a = some c → B a = none ∧ H a = none ∧ CellAt K H H1 a c
structure SlOk (K : PySem.W.Frag) (H : Hp) (σ : L2.St) (ρ : Rho) : Prop where
  len : σ.length = ρ.length
  get : ∀ (i : Nat) (d : Dt), ρ[i]? = some (some d) → ∃ v, σ[i]? = some (some v) ∧ Rp K H v d
section
variable {K : PySem.W.Frag} {B H H' H1 H2 : Hp} {M M' : Mm} {σ : L2.St} {ρ : Rho}
theorem SlOk.mono (s : SlOk K H σ ρ) (e : Ex H H') : SlOk K H' σ ρ := ⟨s.len, fun i d h => by
  obtain ⟨v, h1, h2⟩ := s.get i d h
  exact ⟨v, h1, h2.mono e⟩⟩
theorem SlOk.set {i : Nat} {v : V} {d : Dt} (s : SlOk K H σ ρ) (r : Rp K H v d) : SlOk K H (σ.set i (some v)) (ρ.set i (some d)) := by
  refine ⟨by rw [List.length_set, List.length_set, s.len], fun j e h => ?_⟩
  by_cases hj : i = j
  · subst hj
    by_cases hl : i < ρ.length
    · rw [List.getElem?_set_self hl] at h
      cases h
      exact ⟨v, by rw [List.getElem?_set_self (by rw [s.len]; exact hl)], r⟩
    · rw [List.getElem?_eq_none (by rw [List.length_set]; omega)] at h
      cases h
  · rw [List.getElem?_set_ne hj] at h ⊢
    exact s.get j e h
theorem SlOk.wipe (s : SlOk K H σ ρ) : ∀ vs : List Nat, SlOk K H (L2.wipe σ vs) (vs.foldr (fun v r => r.set v none) ρ)
  | [] => s
  | v :: vs => by
    have q := SlOk.wipe s vs
    refine ⟨by unfold L2.wipe; rw [List.foldr_cons, List.length_set, List.length_set, q.len], fun j e h => ?_⟩
    rw [List.foldr_cons] at h
    unfold L2.wipe
    by_cases hj : v = j
    · subst hj
      by_cases hl : v < (vs.foldr (fun v r => r.set v none) ρ).length
      · rw [List.getElem?_set_self hl] at h
        cases h
      · rw [List.getElem?_eq_none (by rw [List.length_set]; omega)] at h
        cases h
    · rw [List.getElem?_set_ne hj] at h ⊢
      exact q.get j e h
/-- new objects are laid, known -/
theorem Ok.grow {p : Addr} {o : HO} (k : Ok K B H H1 M) (hp : H1 p = none) : Ok K B (upd H p o) (upd H1 p o) M := by
  have hH : H p = none := fresh_back k.h hp
  refine ⟨k.b.trans (Ex.new hp), fun a u e => ?_, fun a u e => ?_, fun a c e => ?_⟩
  · rw [upd_ne (ne_of_none (k.b a u e) hp)]
    exact k.bh a u e
  · by_cases ha : a = p
    · rw [ha] at e ⊢
      rw [upd_same] at e ⊢
      exact e
    · rw [upd_ne ha] at e ⊢
      exact k.h a u e
  · obtain ⟨h1, h2, h3⟩ := k.m a c e
    obtain ⟨u, hu⟩ := h3.there
    have ha : a ≠ p := ne_of_none hu hp
    exact ⟨h1, by rw [upd_ne ha]; exact h2, h3.mono (Ex.new hH) (upd_ne ha)⟩
/-- .. as a thing that may change -/
theorem Ok.cell {p : Addr} {o : HO} {c : Cell} (k : Ok K B H H1 M) (hp : H1 p = none) (hc : CellAt K H (upd H1 p o) p c) : Ok K B H (upd H1 p o) (put M p c) := by
  have hH : H p = none := fresh_back k.h hp
  have hB : B p = none := fresh_back k.b hp
  refine ⟨k.b.trans (Ex.new hp), k.bh, k.h.trans (Ex.new hp), fun a c' e => ?_⟩
  by_cases ha : a = p
  · rw [ha] at e ⊢
    rw [put_same] at e
    cases e
    exact ⟨hB, hH, hc⟩
  · rw [put_ne ha] at e
    obtain ⟨h1, h2, h3⟩ := k.m a c' e
    exact ⟨h1, h2, h3.mono (Ex.refl H) (upd_ne ha)⟩
theorem Ok.noMem {p : Addr} (k : Ok K B H H1 M) (hp : H1 p = none) : M p = none := by
  cases e : M p with
  | none => rfl
  | some c =>
    obtain ⟨_, _, h⟩ := k.m p c e
    obtain ⟨o, h⟩ := h.there
    rw [hp] at h
    cases h
/-- a cell is changed -/
theorem Ok.write {p : Addr} {o : HO} {c c' : Cell} (k : Ok K B H H1 M) (hc : M p = some c) (hc' : CellAt K H (upd H1 p o) p c') : Ok K B H (upd H1 p o) (put M p c') := by
  obtain ⟨h1, h2, h3⟩ := k.m p c hc
  refine ⟨k.b.mut h1, k.bh, k.h.mut h2, fun a d e => ?_⟩
  by_cases ha : a = p
  · rw [ha] at e ⊢
    rw [put_same] at e
    cases e
    exact ⟨h1, h2, hc'⟩
  · rw [put_ne ha] at e
    obtain ⟨q1, q2, q3⟩ := k.m a d e
    exact ⟨q1, q2, q3.mono (Ex.refl H) (upd_ne ha)⟩
theorem Ok.sub (k : Ok K B H H1 M) (s : Sub M' M) : Ok K B H H1 M' := ⟨k.b, k.bh, k.h, fun a c e => k.m a c (s a c e)⟩
theorem del_sub {a : Addr} : Sub (del M a) M := fun b c e => by
  unfold del at e
  by_cases h : b = a
  · rw [if_pos h] at e
    cases e
  · rw [if_neg h] at e
    exact e
theorem del_put_sub {a : Addr} {c : Cell} (h : Sub M' M) (hn : M' a = none) : Sub M' (del (put M a c) a) := fun b d e => by
  have hb : b ≠ a := ne_mem e hn
  unfold del
  rw [if_neg hb, put_ne hb]
  exact h b d e
/-- a cell is known from now on, and stays -/
theorem Ok.freeze {p : Addr} {c : Cell} {o : HO} (k : Ok K B H H1 M) (hc : M p = some c) (ho : H1 p = some o) : Ok K B (upd H p o) H1 (del M p) ∧ Ex H (upd H p o) := by
  obtain ⟨h1, h2, h3⟩ := k.m p c hc
  refine ⟨⟨k.b, fun a u e => ?_, fun a u e => ?_, fun a d e => ?_⟩, Ex.new h2⟩
  · rw [upd_ne (ne_of_none e h1)]
    exact k.bh a u e
  · by_cases ha : a = p
    · rw [ha] at e ⊢
      rw [upd_same] at e
      rw [ho]
      exact e
    · rw [upd_ne ha] at e
      exact k.h a u e
  · have ha : a ≠ p := fun z => by
      rw [z] at e
      unfold del at e
      rw [if_pos rfl] at e
      cases e
    obtain ⟨q1, q2, q3⟩ := k.m a d (del_sub a d e)
    exact ⟨q1, by rw [upd_ne ha]; exact q2, q3.mono (Ex.new h2) rfl⟩
end
section
variable (K : PySem.W.Frag)
def EX (te : TE) (ρ : Rho) (M : Mm) (Φ : Dt → Mm → Prop) : Prop := ∀ (B H H1 : Hp) (σ : L2.St), Ok K B H H1 M → SlOk K H σ ρ → ∀ Q : VK,
  (∀ v d M' H' H2, Φ d M' → Ok K B H' H2 M' → Ex H H' → Rp K H' v d → Q v H2) → te σ H1 Q
def TX (tt : TT) (ρ : Rho) (M : Mm) (Φ : Bool → Mm → Prop) : Prop := ∀ (B H H1 : Hp) (σ : L2.St), Ok K B H H1 M → SlOk K H σ ρ → ∀ Q : Bool → Hp → Prop,
  (∀ b M' H' H2, Φ b M' → Ok K B H' H2 M' → Ex H H' → Q b H2) → tt σ H1 Q
def AX (ta : TA) (ρ : Rho) (M : Mm) (Φ : List Dt → Mm → Prop) : Prop := ∀ (B H H1 : Hp) (σ : L2.St), Ok K B H H1 M → SlOk K H σ ρ → ∀ Q : List V → Hp → Prop,
  (∀ vs ds M' H' H2, Φ ds M' → Ok K B H' H2 M' → Ex H H' → RpAll K H' vs ds → Q vs H2) → ta σ H1 Q
def OX (to : TO) (ρ : Rho) (M : Mm) (Φ : Option Int → Mm → Prop) : Prop := ∀ (B H H1 : Hp) (σ : L2.St), Ok K B H H1 M → SlOk K H σ ρ → ∀ Q : Option Int → Hp → Prop,
  (∀ o M' H' H2, Φ o M' → Ok K B H' H2 M' → Ex H H' → Q o H2) → to σ H1 Q
/-- operations by values -/
def RX (r : R2) (x y : Dt) (M : Mm) (Φ : Dt → Mm → Prop) : Prop := ∀ (B H H1 : Hp) (vx vy : V), Ok K B H H1 M → Rp K H vx x → Rp K H vy y → ∀ Q : VK,
  (∀ v d M' H' H2, Φ d M' → Ok K B H' H2 M' → Ex H H' → Rp K H' v d → Q v H2) → r vx vy H1 Q
def UX (r : V → Hp → VK → Prop) (x : Dt) (M : Mm) (Φ : Dt → Mm → Prop) : Prop := ∀ (B H H1 : Hp) (vx : V), Ok K B H H1 M → Rp K H vx x → ∀ Q : VK,
  (∀ v d M' H' H2, Φ d M' → Ok K B H' H2 M' → Ex H H' → Rp K H' v d → Q v H2) → r vx H1 Q
def CX (r : List V → Hp → VK → Prop) (xs : List Dt) (M : Mm) (Φ : Dt → Mm → Prop) : Prop := ∀ (B H H1 : Hp) (vs : List V), Ok K B H H1 M → RpAll K H vs xs → ∀ Q : VK,
  (∀ v d M' H' H2, Φ d M' → Ok K B H' H2 M' → Ex H H' → Rp K H' v d → Q v H2) → r vs H1 Q
def LX (r : V → Option Int → Option Int → Hp → VK → Prop) (x : Dt) (lo hi : Option Int) (M : Mm) (Φ : Dt → Mm → Prop) : Prop := ∀ (B H H1 : Hp) (vx : V), Ok K B H H1 M → Rp K H vx x → ∀ Q : VK,
  (∀ v d M' H' H2, Φ d M' → Ok K B H' H2 M' → Ex H H' → Rp K H' v d → Q v H2) → r vx lo hi H1 Q
def MX (r : V → List V → Hp → VK → Prop) (x : Dt) (xs : List Dt) (M : Mm) (Φ : Dt → Mm → Prop) : Prop := ∀ (B H H1 : Hp) (vx : V) (vs : List V), Ok K B H H1 M → Rp K H vx x → RpAll K H vs xs → ∀ Q : VK,
  (∀ v d M' H' H2, Φ d M' → Ok K B H' H2 M' → Ex H H' → Rp K H' v d → Q v H2) → r vx vs H1 Q
/-- targets -/
def GX (g : TG) (x : Dt) (ρ : Rho) (M : Mm) (Φ : Rho → Mm → Prop) : Prop := ∀ (B H H1 : Hp) (σ : L2.St) (v : V), Ok K B H H1 M → SlOk K H σ ρ → Rp K H v x → ∀ Q : L2.St → Hp → Prop,
  (∀ ρ' M' σ' H' H2, Φ ρ' M' → Ok K B H' H2 M' → SlOk K H' σ' ρ' → Ex H H' → Q σ' H2) → g v σ H1 Q
def GXs (g : TGs) (xs : List Dt) (ρ : Rho) (M : Mm) (Φ : Rho → Mm → Prop) : Prop := ∀ (B H H1 : Hp) (σ : L2.St) (vs : List V), Ok K B H H1 M → SlOk K H σ ρ → RpAll K H vs xs → ∀ Q : L2.St → Hp → Prop,
  (∀ ρ' M' σ' H' H2, Φ ρ' M' → Ok K B H' H2 M' → SlOk K H' σ' ρ' → Ex H H' → Q σ' H2) → g vs σ H1 Q
structure Es where
  nx : Rho → Mm → Prop
  rt : Dt → Mm → Prop
  bk : Rho → Mm → Prop := fun _ _ => False
  ct : Rho → Mm → Prop := fun _ _ => False
structure RelE (B H : Hp) (D : Ends) (E : Es) : Prop where
  nx : ∀ ρ' M' σ' H' H2, E.nx ρ' M' → Ok K B H' H2 M' → SlOk K H' σ' ρ' → Ex H H' → D.nx σ' H2
  rt : ∀ v d M' H' H2, E.rt d M' → Ok K B H' H2 M' → Ex H H' → Rp K H' v d → D.rt v H2
  bk : ∀ ρ' M' σ' H' H2, E.bk ρ' M' → Ok K B H' H2 M' → SlOk K H' σ' ρ' → Ex H H' → D.bk σ' H2
  ct : ∀ ρ' M' σ' H' H2, E.ct ρ' M' → Ok K B H' H2 M' → SlOk K H' σ' ρ' → Ex H H' → D.ct σ' H2
def SX (t : TS) (ρ : Rho) (M : Mm) (E : Es) : Prop := ∀ (B H H1 : Hp) (σ : L2.St) (D : Ends), Ok K B H H1 M → SlOk K H σ ρ → RelE K B H D E → t D σ H1
end
section
variable {K : PySem.W.Frag} {ρ : Rho} {M : Mm} {Φ : Dt → Mm → Prop} {ta tb te tc : TE} {t u : TT}
theorem RelE.mono {B H H' : Hp} {D : Ends} {E : Es} (r : RelE K B H D E) (e : Ex H H') : RelE K B H' D E :=
  ⟨fun ρ' M' σ' H2 H3 h k s q => r.nx ρ' M' σ' H2 H3 h k s (e.trans q), fun v d M' H2 H3 h k q x => r.rt v d M' H2 H3 h k (e.trans q) x, fun ρ' M' σ' H2 H3 h k s q => r.bk ρ' M' σ' H2 H3 h k s (e.trans q), fun ρ' M' σ' H2 H3 h k s q => r.ct ρ' M' σ' H2 H3 h k s (e.trans q)⟩
theorem ex_var {i : Nat} {d : Dt} (h : ρ[i]? = some (some d)) (k : Φ d M) : EX K (tVar i) ρ M Φ := fun B H H1 σ o s Q q => by
  obtain ⟨v, h1, h2⟩ := s.get i d h
  exact ⟨v, h1, q v d M H H1 k o (Ex.refl H) h2⟩
theorem ex_c {v : V} {d : Dt} (r : ∀ H, Rp K H v d) (k : Φ d M) : EX K (tC v) ρ M Φ := fun B H H1 σ o s Q q => q v d M H H1 k o (Ex.refl H) (r H)
theorem ex_int {i : Int} (k : Φ (.int i) M) : EX K (tC (.int i)) ρ M Φ := ex_c (fun _ => .int i) k
theorem ex_str {x : Str} (k : Φ (.str x) M) : EX K (tC (.str x)) ρ M Φ := ex_c (fun _ => .str x) k
theorem ex_bl {b : Bool} (k : Φ (.bl b) M) : EX K (tC (.bl b)) ρ M Φ := ex_c (fun _ => .bl b) k
theorem ex_non (k : Φ .non M) : EX K (tC .non) ρ M Φ := ex_c (fun _ => .non) k
theorem ex_raw {a : Addr} (k : Φ (.raw (.ref a)) M) : EX K (tC (.ref a)) ρ M Φ := ex_c (fun _ => .raw _) k
theorem EX.mono {Ψ : Dt → Mm → Prop} (h : EX K te ρ M Φ) (k : ∀ d M', Φ d M' → Ψ d M') : EX K te ρ M Ψ := fun B H H1 σ o s Q q => h B H H1 σ o s Q fun v d M' H' H2 z => q v d M' H' H2 (k d M' z)
theorem TX.mono {Φ Ψ : Bool → Mm → Prop} (h : TX K t ρ M Φ) (k : ∀ d M', Φ d M' → Ψ d M') : TX K t ρ M Ψ := fun B H H1 σ o s Q q => h B H H1 σ o s Q fun d M' H' H2 z => q d M' H' H2 (k d M' z)
/-- a cell that is handed on as data: it stays from now on -/
theorem ex_frz (h : EX K te ρ M (fun d M1 => ∃ a xs, d = .raw (.ref a) ∧ M1 a = some (.lst xs) ∧ Φ (.lst xs) (del M1 a))) : EX K te ρ M Φ := fun B H H1 σ o s Q q =>
  h B H H1 σ o s Q fun v d M' H' H2 z k e r => by
    obtain ⟨a, xs, rfl, hm, hk⟩ := z
    obtain ⟨h1, h2, vs, h3, h4⟩ := k.m a _ hm
    obtain ⟨k', e'⟩ := k.freeze hm h3
    rw [r.raw_inv]
    exact q _ _ _ _ _ hk k' (e.trans e') (.lst upd_same (h4.mono e'))
theorem ex_frzI (h : EX K te ρ M (fun d M1 => ∃ a C fs, d = .raw (.ref a) ∧ M1 a = some (.ins C fs) ∧ Φ (.obj C fs) (del M1 a))) : EX K te ρ M Φ := fun B H H1 σ o s Q q =>
  h B H H1 σ o s Q fun v d M' H' H2 z k e r => by
    obtain ⟨a, C, fs, rfl, hm, hk⟩ := z
    obtain ⟨h1, h2, dx, vs, h3, h4⟩ := k.m a _ hm
    obtain ⟨k', e'⟩ := k.freeze hm h3
    rw [r.raw_inv]
    exact q _ _ _ _ _ hk k' (e.trans e') (.obj upd_same (h4.mono e'))
theorem ex_op {r : R2} (h : EX K ta ρ M (fun x M1 => EX K tb ρ M1 (fun y M2 => RX K r x y M2 Φ))) : EX K (tOp r ta tb) ρ M Φ := fun B H H1 σ o s Q q =>
  h B H H1 σ o s _ fun v d M' H' H2 z k e rx => z B H' H2 σ k (s.mono e) _ fun v2 d2 M2 H3 H4 z2 k2 e2 ry => z2 B H3 H4 v v2 k2 (rx.mono e2) ry Q fun v3 d3 M3 H5 H6 z3 k3 e3 rz => q v3 d3 M3 H5 H6 z3 k3 ((e.trans e2).trans e3) rz
theorem ex_un {r : V → Hp → VK → Prop} (h : EX K ta ρ M (fun x M1 => UX K r x M1 Φ)) : EX K (tUn r ta) ρ M Φ := fun B H H1 σ o s Q q =>
  h B H H1 σ o s _ fun v d M' H' H2 z k e rx => z B H' H2 v k rx Q fun v3 d3 M3 H5 H6 z3 k3 e3 rz => q v3 d3 M3 H5 H6 z3 k3 (e.trans e3) rz
theorem ex_cb {r : List V → Hp → VK → Prop} {ta : TA} (h : AX K ta ρ M (fun xs M1 => CX K r xs M1 Φ)) : EX K (tCB r ta) ρ M Φ := fun B H H1 σ o s Q q =>
  h B H H1 σ o s _ fun v d M' H' H2 z k e rx => z B H' H2 v k rx Q fun v3 d3 M3 H5 H6 z3 k3 e3 rz => q v3 d3 M3 H5 H6 z3 k3 (e.trans e3) rz
theorem ex_tup {ta : TA} (h : AX K ta ρ M (fun xs M1 => xs.length ≤ sizeLine ∧ Φ (.tup xs) M1)) : EX K (tTup ta) ρ M Φ := fun B H H1 σ o s Q q =>
  h B H H1 σ o s _ fun vs ds M' H' H2 z k e rx => ⟨by rw [rx.length]; exact z.1, fun p hp => q _ _ _ _ _ z.2 (k.grow hp) (e.trans (Ex.new (fresh_back k.h hp))) (.tup (st_of upd_same) (rx.mono (Ex.new (fresh_back k.h hp))))⟩
/-- a new list, as data | as a cell -/
theorem ex_lst {ta : TA} (h : AX K ta ρ M (fun xs M1 => xs.length ≤ sizeLine ∧ Φ (.lst xs) M1)) : EX K (tLst ta) ρ M Φ := fun B H H1 σ o s Q q =>
  h B H H1 σ o s _ fun vs ds M' H' H2 z k e rx => ⟨by rw [rx.length]; exact z.1, fun p hp => q _ _ _ _ _ z.2 (k.grow hp) (e.trans (Ex.new (fresh_back k.h hp))) (.lst upd_same (rx.mono (Ex.new (fresh_back k.h hp))))⟩
theorem ex_lstC {ta : TA} (h : AX K ta ρ M (fun xs M1 => xs.length ≤ sizeLine ∧ ∀ a, M1 a = none → Φ (.raw (.ref a)) (put M1 a (.lst xs)))) : EX K (tLst ta) ρ M Φ := fun B H H1 σ o s Q q =>
  h B H H1 σ o s _ fun vs ds M' H' H2 z k e rx => ⟨by rw [rx.length]; exact z.1, fun p hp => q _ _ _ _ _ (z.2 p (k.noMem hp)) (k.cell hp ⟨vs, upd_same, rx⟩) e (.raw _)⟩
theorem ax_nil {Φ : List Dt → Mm → Prop} (k : Φ [] M) : AX K tNil ρ M Φ := fun B H H1 σ o s Q q => q [] [] M H H1 k o (Ex.refl H) .nil
theorem ax_cons {Φ : List Dt → Mm → Prop} {tr : TA} (h : EX K te ρ M (fun x M1 => AX K tr ρ M1 (fun xs M2 => Φ (x :: xs) M2))) : AX K (tCons te tr) ρ M Φ := fun B H H1 σ o s Q q =>
  h B H H1 σ o s _ fun v d M' H' H2 z k e rx => z B H' H2 σ k (s.mono e) _ fun vs ds M2 H3 H4 z2 k2 e2 ry => q _ _ _ _ _ z2 k2 (e.trans e2) (.cons (rx.mono e2) ry)
theorem ex_if (h : TX K t ρ M (fun b M1 => (b = true → EX K ta ρ M1 Φ) ∧ (b = false → EX K tb ρ M1 Φ))) : EX K (tIf t ta tb) ρ M Φ := fun B H H1 σ o s Q q =>
  h B H H1 σ o s _ fun b M' H' H2 z k e => by
    cases b with
    | true => exact iteT (z.1 rfl B H' H2 σ k (s.mono e) Q fun v d M3 H3 H4 z2 k2 e2 => q v d M3 H3 H4 z2 k2 (e.trans e2))
    | false => exact iteF (z.2 rfl B H' H2 σ k (s.mono e) Q fun v d M3 H3 H4 z2 k2 e2 => q v d M3 H3 H4 z2 k2 (e.trans e2))
theorem tx_test {Φ : Bool → Mm → Prop} (h : EX K te ρ M (fun d M1 => ∃ b, d = .bl b ∧ Φ b M1)) : TX K (tTest te) ρ M Φ := fun B H H1 σ o s Q q =>
  h B H H1 σ o s _ fun v d M' H' H2 z k e r => by
    obtain ⟨b, rfl, z⟩ := z
    exact ⟨b, r.bl_inv, q b M' H' H2 z k e⟩
theorem tx_B {Φ : Bool → Mm → Prop} (h : EX K te ρ M (fun d M1 => ∃ b, d = .bl b ∧ Φ b M1)) : TX K (tB te) ρ M Φ := fun B H H1 σ o s Q q =>
  h B H H1 σ o s _ fun v d M' H' H2 z k e r => by
    obtain ⟨b, rfl, z⟩ := z
    exact ⟨b, r.bl_inv, q b M' H' H2 z k e⟩
theorem tx_and {Φ : Bool → Mm → Prop} (h : TX K t ρ M (fun b M1 => (b = true → TX K u ρ M1 Φ) ∧ (b = false → Φ false M1))) : TX K (tAnd t u) ρ M Φ := fun B H H1 σ o s Q q =>
  h B H H1 σ o s _ fun b M' H' H2 z k e => by
    cases b with
    | true => exact iteT (z.1 rfl B H' H2 σ k (s.mono e) Q fun d M3 H3 H4 z2 k2 e2 => q d M3 H3 H4 z2 k2 (e.trans e2))
    | false => exact iteF (q false M' H' H2 (z.2 rfl) k e)
theorem tx_or {Φ : Bool → Mm → Prop} (h : TX K t ρ M (fun b M1 => (b = true → Φ true M1) ∧ (b = false → TX K u ρ M1 Φ))) : TX K (tOr t u) ρ M Φ := fun B H H1 σ o s Q q =>
  h B H H1 σ o s _ fun b M' H' H2 z k e => by
    cases b with
    | false => exact iteF (z.2 rfl B H' H2 σ k (s.mono e) Q fun d M3 H3 H4 z2 k2 e2 => q d M3 H3 H4 z2 k2 (e.trans e2))
    | true => exact iteT (q true M' H' H2 (z.1 rfl) k e)
theorem tx_not {Φ : Bool → Mm → Prop} (h : TX K t ρ M (fun b M1 => Φ (!b) M1)) : TX K (tNot t) ρ M Φ := fun B H H1 σ o s Q q => h B H H1 σ o s _ fun b M' H' H2 z k e => q (!b) M' H' H2 z k e
theorem tx_yes {Φ : Bool → Mm → Prop} (k : Φ true M) : TX K tYes ρ M Φ := fun B H H1 σ o s Q q => q true M H H1 k o (Ex.refl H)
theorem ex_andV (h : EX K ta ρ M (fun d M1 => ∃ b, d = .bl b ∧ (b = true → EX K tb ρ M1 Φ) ∧ (b = false → Φ (.bl false) M1))) : EX K (tAndV ta tb) ρ M Φ := fun B H H1 σ o s Q q =>
  h B H H1 σ o s _ fun v d M' H' H2 z k e r => by
    obtain ⟨b, rfl, z⟩ := z
    refine ⟨b, r.bl_inv, ?_⟩
    cases b with
    | true => exact iteT (z.1 rfl B H' H2 σ k (s.mono e) Q fun v d M3 H3 H4 z2 k2 e2 => q v d M3 H3 H4 z2 k2 (e.trans e2))
    | false => exact iteF (q _ _ M' H' H2 (z.2 rfl) k e (.bl false))
theorem ex_orV (h : EX K ta ρ M (fun d M1 => ∃ b, d = .bl b ∧ (b = true → Φ (.bl true) M1) ∧ (b = false → EX K tb ρ M1 Φ))) : EX K (tOrV ta tb) ρ M Φ := fun B H H1 σ o s Q q =>
  h B H H1 σ o s _ fun v d M' H' H2 z k e r => by
    obtain ⟨b, rfl, z⟩ := z
    refine ⟨b, r.bl_inv, ?_⟩
    cases b with
    | false => exact iteF (z.2 rfl B H' H2 σ k (s.mono e) Q fun v d M3 H3 H4 z2 k2 e2 => q v d M3 H3 H4 z2 k2 (e.trans e2))
    | true => exact iteT (q _ _ M' H' H2 (z.1 rfl) k e (.bl true))
theorem ex_notV (h : EX K ta ρ M (fun d M1 => ∃ b, d = .bl b ∧ Φ (.bl (!b)) M1)) : EX K (tNotV ta) ρ M Φ := fun B H H1 σ o s Q q =>
  h B H H1 σ o s _ fun v d M' H' H2 z k e r => by
    obtain ⟨b, rfl, z⟩ := z
    exact ⟨b, r.bl_inv, q _ _ M' H' H2 z k e (.bl _)⟩
theorem ex_sl {r : V → Option Int → Option Int → Hp → VK → Prop} {tl th : TO} (h : EX K te ρ M (fun x M1 => OX K tl ρ M1 (fun l M2 => OX K th ρ M2 (fun u M3 => LX K r x l u M3 Φ)))) : EX K (tSl r te tl th) ρ M Φ := fun B H H1 σ o s Q q =>
  h B H H1 σ o s _ fun v d M' H' H2 z k e rx => z B H' H2 σ k (s.mono e) _ fun l M2 H3 H4 z2 k2 e2 => z2 B H3 H4 σ k2 (s.mono (e.trans e2)) _ fun w M4 H5 H6 z3 k3 e3 =>
    z3 B H5 H6 v k3 (rx.mono (e2.trans e3)) Q fun v3 d3 M3 H7 H8 z4 k4 e4 rz => q v3 d3 M3 H7 H8 z4 k4 (((e.trans e2).trans e3).trans e4) rz
theorem ox_none {Φ : Option Int → Mm → Prop} (k : Φ none M) : OX K tNoPart ρ M Φ := fun B H H1 σ o s Q q => q none M H H1 k o (Ex.refl H)
theorem ox_some {Φ : Option Int → Mm → Prop} (h : EX K te ρ M (fun d M1 => ∃ i, d = .int i ∧ Φ (some i) M1)) : OX K (tPart te) ρ M Φ := fun B H H1 σ o s Q q =>
  h B H H1 σ o s _ fun v d M' H' H2 z k e r => by
    obtain ⟨i, rfl, z⟩ := z
    exact ⟨i, r.int_inv, q _ M' H' H2 z k e⟩
end
end Wk
namespace Wk
open PySem L2 Evl
section
variable {K : PySem.W.Frag} {ρ : Rho} {M : Mm} {Φ : Dt → Mm → Prop} {ta tb te tc : TE} {t u : TT} {ts us : TS} {E : Es} {g : TG}
theorem gx_name {i : Nat} {d : Dt} {Ψ : Rho → Mm → Prop} (k : Ψ (ρ.set i (some d)) M) : GX K (gName i) d ρ M Ψ := fun B H H1 σ v o s r Q q => q _ M _ H H1 k o (s.set r) (Ex.refl H)
theorem gx_tup {n : Nat} {t : TGs} {ds : List Dt} {Ψ : Rho → Mm → Prop} (hl : ds.length = n) (h : GXs K t ds ρ M Ψ) : GX K (gTup K n t) (.tup ds) ρ M Ψ := fun B H H1 σ v o s r Q q => by
  obtain ⟨a, xs, rfl, h1, h2⟩ := r.tup_inv
  exact ⟨a, xs, rfl, ex_t o.h h1, by rw [h2.length, hl], h B H H1 σ xs o s h2 Q q⟩
theorem gxs_nil {Ψ : Rho → Mm → Prop} (k : Ψ ρ M) : GXs K gNil [] ρ M Ψ := fun B H H1 σ vs o s r Q q => by
  cases r
  exact ⟨rfl, q ρ M σ H H1 k o s (Ex.refl H)⟩
theorem gxs_cons {t : TG} {u : TGs} {d : Dt} {ds : List Dt} {Ψ : Rho → Mm → Prop} (h : GX K t d ρ M (fun ρ1 M1 => GXs K u ds ρ1 M1 Ψ)) : GXs K (gCons t u) (d :: ds) ρ M Ψ := fun B H H1 σ vs o s r Q q => by
  cases r with
  | cons r rr => exact ⟨_, _, rfl, h B H H1 σ _ o s r _ fun ρ' M' σ' H' H2 z k s' e => z B H' H2 σ' _ k s' (rr.mono e) Q fun ρ'' M'' σ'' H'' H3 z2 k2 s2 e2 => q ρ'' M'' σ'' H'' H3 z2 k2 s2 (e.trans e2)⟩
/-- o[i] = v, o a list that may change -/
theorem gx_sub {to ti : TE} {d : Dt} {Ψ : Rho → Mm → Prop} (h : EX K to ρ M (fun x M1 => EX K ti ρ M1 (fun y M2 => ∃ a xs k j, x = .raw (.ref a) ∧ y = .int k ∧ M2 a = some (.lst xs) ∧ ixN xs.length k = some j ∧ Ψ ρ (put M2 a (.lst (xs.set j d)))))) : GX K (gSub to ti rSetL) d ρ M Ψ := fun B H H1 σ v o s r Q q =>
  h B H H1 σ o s _ fun v1 x M1 H2 H3 z1 k1 e1 r1 => z1 B H2 H3 σ k1 (s.mono e1) _ fun v2 y M2 H4 H5 z2 k2 e2 r2 => by
    obtain ⟨a, xs, k, j, rfl, rfl, hm, hj, hk⟩ := z2
    obtain ⟨m1, m2, vs, m3, m4⟩ := k2.m a _ hm
    have r' : Rp K H4 v d := r.mono (e1.trans e2)
    exact ⟨a, vs, k, j, r1.raw_inv, r2.int_inv, m3, by rw [m4.length]; exact hj, q ρ _ σ H4 _ hk (k2.write hm ⟨_, upd_same, m4.set r' j⟩) (s.mono (e1.trans e2)) (e1.trans e2)⟩
theorem sx_next (k : E.nx ρ M) : SX K tNext ρ M E := fun B H H1 σ D o s r => r.nx ρ M σ H H1 k o s (Ex.refl H)
theorem sx_seq (h : SX K ts ρ M { E with nx := fun ρ' M' => SX K us ρ' M' E }) : SX K (tSeq ts us) ρ M E := fun B H H1 σ D o s r =>
  h B H H1 σ _ o s ⟨fun ρ' M' σ' H' H2 z k s' e => z B H' H2 σ' D k s' (r.mono e), r.rt, r.bk, r.ct⟩
theorem sx_asg (h : EX K te ρ M (fun d M1 => GX K g d ρ M1 E.nx)) : SX K (tAsg te g) ρ M E := fun B H H1 σ D o s r =>
  h B H H1 σ o s _ fun v d M' H' H2 z k e rv => z B H' H2 σ v k (s.mono e) rv _ fun ρ2 M2 σ2 H3 H4 z2 k2 s2 e2 => r.nx ρ2 M2 σ2 H3 H4 z2 k2 s2 (e.trans e2)
theorem sx_set {i : Nat} (h : EX K te ρ M (fun d M1 => E.nx (ρ.set i (some d)) M1)) : SX K (tAsg te (gName i)) ρ M E := sx_asg (h.mono fun d M' z => gx_name z)
theorem sx_drop (h : EX K te ρ M (fun _ M1 => E.nx ρ M1)) : SX K (tDrop te) ρ M E := fun B H H1 σ D o s r =>
  h B H H1 σ o s _ fun v d M' H' H2 z k e rv => r.nx ρ M' σ H' H2 z k (s.mono e) e
theorem sx_ret (h : EX K te ρ M E.rt) : SX K (tRet te) ρ M E := fun B H H1 σ D o s r => h B H H1 σ o s _ r.rt
theorem sx_retN (h : E.rt .non M) : SX K tRetN ρ M E := fun B H H1 σ D o s r => r.rt _ _ _ _ _ h o (Ex.refl H) .non
theorem sx_if (h : TX K t ρ M (fun b M1 => (b = true → SX K ts ρ M1 E) ∧ (b = false → SX K us ρ M1 E))) : SX K (tIfS t ts us) ρ M E := fun B H H1 σ D o s r =>
  h B H H1 σ o s _ fun b M' H' H2 z k e => by
    cases b with
    | true => exact iteT (z.1 rfl B H' H2 σ D k (s.mono e) (r.mono e))
    | false => exact iteF (z.2 rfl B H' H2 σ D k (s.mono e) (r.mono e))
theorem sx_par {i j : Nat} {ta : TA} (h : AX K ta ρ M (fun ds M1 => ∃ a b, ds = [a, b] ∧ E.nx ((ρ.set i (some a)).set j (some b)) M1)) : SX K (tPar i j ta) ρ M E := fun B H H1 σ D o s r =>
  h B H H1 σ o s _ fun vs ds M' H' H2 z k e rv => by
    obtain ⟨a, b, rfl, z⟩ := z
    cases rv with
    | cons r1 rv =>
      cases rv with
      | cons r2 rv =>
        cases rv
        exact ⟨_, _, rfl, r.nx _ _ _ H' H2 z k (((s.mono e).set r1).set r2) e⟩
theorem sx_while {m0 : Nat} (W : Nat → Rho → Mm → Prop) (h0 : W m0 ρ M)
    (hs : ∀ m ρ' M', W m ρ' M' → TX K t ρ' M' (fun b M1 => (b = true → SX K ts ρ' M1 { nx := fun ρ2 M2 => ∃ m', m' < m ∧ W m' ρ2 M2, rt := E.rt, ct := fun ρ2 M2 => ∃ m', m' < m ∧ W m' ρ2 M2, bk := E.nx }) ∧ (b = false → E.nx ρ' M1))) : SX K (tWhile t ts) ρ M E := fun B H H1 σ D o s r => by
  refine ⟨fun m σ' H2 => ∃ ρ' M' H', W m ρ' M' ∧ Ok K B H' H2 M' ∧ SlOk K H' σ' ρ' ∧ Ex H H', ⟨m0, ρ, M, H, h0, o, s, Ex.refl H⟩, ?_⟩
  rintro m σ' H2 ⟨ρ', M', H', w, k, s', e⟩
  refine hs m ρ' M' w B H' H2 σ' k s' _ fun b M1 H3 H4 z k1 e1 => ?_
  cases b with
  | false => exact iteF (r.nx ρ' M1 σ' H3 H4 (z.2 rfl) k1 (s'.mono e1) (e.trans e1))
  | true =>
    refine iteT ⟨fun σ2 H5 => ∃ ρ2 M2 H6, (∃ m', m' < m ∧ W m' ρ2 M2) ∧ Ok K B H6 H5 M2 ∧ SlOk K H6 σ2 ρ2 ∧ Ex H H6, ?_, ?_⟩
    · rintro σ2 H5 ⟨ρ2, M2, H6, ⟨m', hm, w'⟩, k2, s2, e2⟩
      exact ⟨m', hm, ρ2, M2, H6, w', k2, s2, e2⟩
    · refine z.1 rfl B H3 H4 σ' _ k1 (s'.mono e1) ⟨fun ρ2 M2 σ2 H6 H5 w2 k2 s2 e2 => ⟨ρ2, M2, H6, w2, k2, s2, (e.trans e1).trans e2⟩, fun v d M2 H6 H5 w2 k2 e2 r2 => r.rt v d M2 H6 H5 w2 k2 ((e.trans e1).trans e2) r2,
        fun ρ2 M2 σ2 H6 H5 w2 k2 s2 e2 => r.nx ρ2 M2 σ2 H6 H5 w2 k2 s2 ((e.trans e1).trans e2), fun ρ2 M2 σ2 H6 H5 w2 k2 s2 e2 => ⟨ρ2, M2, H6, w2, k2, s2, (e.trans e1).trans e2⟩⟩
end
structure WalkD (K : PySem.W.Frag) (J : It) (G : Mm → Prop) (H' : Hp) (ys : List Dt) : Prop where
  goes : ∀ (i : Nat) (B H3 H4 : Hp) (M3 : Mm), i < ys.length → Ok K B H3 H4 M3 → Ex H' H3 → G M3 → J.go i H4
  stops : ∀ (B H3 H4 : Hp) (M3 : Mm), Ok K B H3 H4 M3 → Ex H' H3 → G M3 → J.stop ys.length H4
  yields : ∀ (i : Nat) (x : V) (H5 B H3 H4 : Hp) (M3 : Mm), i < ys.length → Ok K B H3 H4 M3 → Ex H' H3 → G M3 → J.yld i H4 x H5 →
    (H5 = H4 ∧ ∃ d, ys[i]? = some d ∧ Rp K H3 x d) ∨ (∃ T vs ds, x = .ref T ∧ H4 T = none ∧ H5 = upd H4 T (.tup vs) ∧ RpAll K H3 vs ds ∧ ys[i]? = some (.tup ds))
def IX (K : PySem.W.Frag) (wi : TI) (ρ : Rho) (M : Mm) (Ψ : List Dt → (Mm → Prop) → Mm → Prop) : Prop := ∀ (B H H1 : Hp) (σ : L2.St), Ok K B H H1 M → SlOk K H σ ρ → ∀ R : It → Hp → Prop,
  (∀ J ys G M' H' H2, Ψ ys G M' → Ok K B H' H2 M' → Ex H H' → WalkD K J G H' ys → R J H2) → wi σ H1 R
/-- a turn's item comes -/
theorem WalkD.item {K : PySem.W.Frag} {J : It} {G : Mm → Prop} {H' B H3 H4 H5 : Hp} {M3 : Mm} {ys : List Dt} {i : Nat} {x : V} (w : WalkD K J G H' ys) (hi : i < ys.length) (o : Ok K B H3 H4 M3) (e : Ex H' H3) (hg : G M3) (y : J.yld i H4 x H5) :
    ∃ d H6, ys[i]? = some d ∧ Rp K H6 x d ∧ Ok K B H6 H5 M3 ∧ Ex H3 H6 := by
  rcases w.yields i x H5 B H3 H4 M3 hi o e hg y with ⟨rfl, d, h1, h2⟩ | ⟨T, vs, ds, rfl, h1, rfl, h2, h3⟩
  · exact ⟨d, H3, h1, h2, o, Ex.refl _⟩
  · have e' : Ex H3 (upd H3 T (.tup vs)) := Ex.new (fresh_back o.h h1)
    exact ⟨.tup ds, upd H3 T (.tup vs), h3, .tup (st_of upd_same) (h2.mono e'), o.grow h1, e'⟩
section
variable {K : PySem.W.Frag} {ρ : Rho} {M : Mm} {Φ : Dt → Mm → Prop} {ta tb te tc : TE} {t u : TT} {ts us : TS} {E : Es} {g : TG} {wi : TI}
theorem sx_for (h : IX K wi ρ M (fun ys G M1 => ∃ I : Nat → Rho → Mm → Prop, I 0 ρ M1 ∧ (∀ i ρ' M', i ≤ ys.length → I i ρ' M' → G M') ∧
    (∀ i d ρ' M', ys[i]? = some d → I i ρ' M' → GX K g d ρ' M' (fun ρ2 M2 => SX K ts ρ2 M2 { nx := I (i + 1), rt := E.rt, ct := I (i + 1), bk := E.nx })) ∧ (∀ ρ' M', I ys.length ρ' M' → E.nx ρ' M'))) : SX K (tFor wi g ts) ρ M E := fun B H H1 σ D o s r =>
  h B H H1 σ o s _ fun J ys G M1 H' H2 z k e w => by
    obtain ⟨I, i0, ig, is, id⟩ := z
    refine ⟨fun i m σ3 H4 => m = ys.length - i ∧ i ≤ ys.length ∧ ∃ ρ' M' H3, I i ρ' M' ∧ Ok K B H3 H4 M' ∧ SlOk K H3 σ3 ρ' ∧ Ex H' H3, ⟨ys.length, by simp, Nat.zero_le _, ρ, M1, H', i0, k, s.mono e, Ex.refl _⟩, ?_⟩
    rintro i m σ3 H4 ⟨rfl, hi, ρ', M', H3, hI, k3, s3, e3⟩
    by_cases hlt : i < ys.length
    · refine .inr ⟨w.goes i B H3 H4 M' hlt k3 e3 (ig i ρ' M' hi hI), fun σ5 H6 => ∃ ρ5 M5 H5, I (i + 1) ρ5 M5 ∧ Ok K B H5 H6 M5 ∧ SlOk K H5 σ5 ρ5 ∧ Ex H' H5, ?_, fun x H5 y => ?_⟩
      · rintro σ5 H6 ⟨ρ5, M5, H5, q1, q2, q3, q4⟩
        exact ⟨ys.length - (i + 1), by omega, rfl, hlt, ρ5, M5, H5, q1, q2, q3, q4⟩
      · obtain ⟨d, H6, y1, y2, k6, e6⟩ := w.item hlt k3 e3 (ig i ρ' M' hi hI) y
        refine is i d ρ' M' y1 hI B H6 H5 σ3 x k6 (s3.mono e6) y2 _ fun ρ2 M2 σ2 H7 H8 z2 k7 s7 e7 => ?_
        refine z2 B H7 H8 σ2 _ k7 s7 ⟨fun ρ5 M5 σ5 H9 H10 q k9 s9 e9 => ⟨ρ5, M5, H9, q, k9, s9, ((e3.trans e6).trans e7).trans e9⟩, fun v d M5 H9 H10 q k9 e9 r9 => r.rt v d M5 H9 H10 q k9 ((((e.trans e3).trans e6).trans e7).trans e9) r9,
          fun ρ5 M5 σ5 H9 H10 q k9 s9 e9 => r.nx ρ5 M5 σ5 H9 H10 q k9 s9 ((((e.trans e3).trans e6).trans e7).trans e9), fun ρ5 M5 σ5 H9 H10 q k9 s9 e9 => ⟨ρ5, M5, H9, q, k9, s9, ((e3.trans e6).trans e7).trans e9⟩⟩
    · have hz : i = ys.length := by omega
      subst hz
      exact .inl ⟨w.stops B H3 H4 M' k3 e3 (ig _ ρ' M' hi hI), r.nx ρ' M' σ3 H3 H4 (id ρ' M' hI) k3 s3 (e.trans e3)⟩
def wipeR (ρ : Rho) (vs : List Nat) : Rho := vs.foldr (fun v r => r.set v none) ρ
theorem SlOk.wipe' {H : Hp} {σ : L2.St} (s : SlOk K H σ ρ) (vs : List Nat) : SlOk K H (L2.wipe σ vs) (wipeR ρ vs) := s.wipe vs
/-- a target that stores the slots vs alone -/
def GWipe (g : TG) (vs : List Nat) : Prop := ∀ (v : V) (σ0 σ : L2.St) (H : Hp) (k : L2.St → Hp → Prop), L2.wipe σ vs = L2.wipe σ0 vs → g v σ H k → g v σ H (fun σ2 H2 => L2.wipe σ2 vs = L2.wipe σ0 vs ∧ k σ2 H2)
def GWipes (g : TGs) (vs : List Nat) : Prop := ∀ (us : List V) (σ0 σ : L2.St) (H : Hp) (k : L2.St → Hp → Prop), L2.wipe σ vs = L2.wipe σ0 vs → g us σ H k → g us σ H (fun σ2 H2 => L2.wipe σ2 vs = L2.wipe σ0 vs ∧ k σ2 H2)
theorem wipe_get {σ : L2.St} : ∀ {vs : List Nat} {i : Nat}, (L2.wipe σ vs)[i]? = if i ∈ vs then (if i < σ.length then some none else none) else σ[i]?
  | [], i => by simp [L2.wipe]
  | v :: vs, i => by
    have ih := wipe_get (σ := σ) (vs := vs) (i := i)
    unfold L2.wipe
    by_cases hv : v = i
    · subst hv
      have hl := wipe_length σ vs
      by_cases hh : v < σ.length
      · rw [List.getElem?_set_self (by omega)]
        simp [hh]
      · rw [List.getElem?_eq_none (by rw [List.length_set]; omega)]
        simp [hh]
    · rw [List.getElem?_set_ne hv, ih]
      have : (i ∈ v :: vs) ↔ (i ∈ vs) := by
        rw [List.mem_cons]
        exact ⟨fun h => h.elim (fun z => absurd z.symm hv) id, Or.inr⟩
      simp only [this]
theorem wipe_set {σ : L2.St} {vs : List Nat} {j : Nat} {x : Option V} (hj : j ∈ vs) : L2.wipe (σ.set j x) vs = L2.wipe σ vs := by
  apply List.ext_getElem?
  intro i
  rw [wipe_get, wipe_get, List.length_set]
  by_cases hi : i ∈ vs
  · rw [if_pos hi, if_pos hi]
  · rw [if_neg hi, if_neg hi, List.getElem?_set_ne (fun (z : j = i) => hi (by rw [← z]; exact hj))]
theorem wipe_wipe {σ : L2.St} {vs : List Nat} : L2.wipe (L2.wipe σ vs) vs = L2.wipe σ vs := by
  apply List.ext_getElem?
  intro i
  rw [wipe_get]
  by_cases hi : i ∈ vs
  · rw [if_pos hi, wipe_get, if_pos hi, wipe_length]
  · rw [if_neg hi]
theorem gw_name {i : Nat} {vs : List Nat} (hi : i ∈ vs) : GWipe (gName i) vs := fun v σ0 σ H k e h => ⟨(wipe_set hi).trans e, h⟩
theorem gw_nil {vs : List Nat} : GWipes gNil vs := fun us σ0 σ H k e h => ⟨h.1, e, h.2⟩
theorem gw_cons {vs : List Nat} {t : TG} {u : TGs} (h1 : GWipe t vs) (h2 : GWipes u vs) (hm : ∀ v σ H (k k' : L2.St → Hp → Prop), (∀ σ2 H2, k σ2 H2 → k' σ2 H2) → t v σ H k → t v σ H k') : GWipes (gCons t u) vs := fun us σ0 σ H k e h => by
  obtain ⟨v, r, e1, h⟩ := h
  refine ⟨v, r, e1, ?_⟩
  have q := h1 v σ0 σ H _ e h
  exact hm v σ H _ _ (fun σ2 H2 z => h2 r σ0 σ2 H2 k z.1 z.2) q
theorem gm_name {i : Nat} : ∀ v σ H (k k' : L2.St → Hp → Prop), (∀ σ2 H2, k σ2 H2 → k' σ2 H2) → gName i v σ H k → gName i v σ H k' := fun _ _ _ _ _ h x => h _ _ x
theorem gw_tup {n : Nat} {vs : List Nat} {t : TGs} (h : GWipes t vs) : GWipe (gTup K n t) vs := fun v σ0 σ H k e q => by
  obtain ⟨a, xs, e1, e2, e3, q⟩ := q
  exact ⟨a, xs, e1, e2, e3, h xs σ0 σ H k e q⟩
theorem ex_lc {vs : List Nat} (hw : GWipe g vs) (h : IX K wi ρ M (fun ys G M1 => ys.length < sizeLine ∧ ∃ I : Nat → List Dt → Mm → Prop, I 0 [] M1 ∧ (∀ i acc M', i ≤ ys.length → I i acc M' → G M') ∧
    (∀ i d acc M', ys[i]? = some d → I i acc M' → acc.length ≤ i → GX K g d (wipeR ρ vs) M' (fun ρ2 M2 => TX K t ρ2 M2 (fun b M3 => (b = true → EX K te ρ2 M3 (fun y M4 => I (i + 1) (acc ++ [y]) M4)) ∧ (b = false → I (i + 1) acc M3)))) ∧
    (∀ acc M', I ys.length acc M' → acc.length ≤ ys.length → Φ (.lst acc) M'))) : EX K (tLc wi g t te vs) ρ M Φ := fun B H H1 σ o s Q q =>
  h B H H1 σ o s _ fun J ys G M1 H' H2 z k e w D hD => by
    obtain ⟨hz, I, i0, ig, is, id⟩ := z
    have hB : B D = none := fresh_back k.b hD
    have hH : H' D = none := fresh_back k.h hD
    -- the state of a turn: the list at D stands aside
    refine ⟨fun i m H4 => m = ys.length - i ∧ i ≤ ys.length ∧ ∃ acc us M' H3, I i acc M' ∧ acc.length ≤ i ∧ H4 D = some (.lst us) ∧ RpAll K H3 us acc ∧ Ok K (upd B D (.lst us)) H3 H4 M' ∧ Ex H' H3, ⟨ys.length, by simp, Nat.zero_le _, [], [], M1, H', i0, Nat.le_refl _, upd_same, .nil, ?_, Ex.refl _⟩, ?_⟩
    · refine ⟨fun a u ea => ?_, fun a u ea => ?_, k.h.trans (Ex.new hD), fun a c ea => ?_⟩
      · by_cases hc : a = D
        · rw [hc] at ea ⊢
          rw [upd_same] at ea ⊢
          exact ea
        · rw [upd_ne hc] at ea ⊢
          exact k.b a u ea
      · by_cases hc : a = D
        · rw [hc]
          exact hH
        · rw [upd_ne hc] at ea
          exact k.bh a u ea
      · obtain ⟨m1, m2, m3⟩ := k.m a c ea
        obtain ⟨u, hu⟩ := m3.there
        have hc : a ≠ D := ne_of_none hu hD
        exact ⟨by rw [upd_ne hc]; exact m1, m2, m3.mono (Ex.refl _) (upd_ne hc)⟩
    rintro i m H4 ⟨rfl, hi, acc, us, M', H3, hI, hal, hd, ra, k3, e3⟩
    by_cases hlt : i < ys.length
    · refine .inr ⟨w.goes i _ H3 H4 M' hlt k3 e3 (ig i acc M' hi hI), fun H6 => ∃ acc us M' H3, I (i + 1) acc M' ∧ acc.length ≤ i + 1 ∧ H6 D = some (.lst us) ∧ RpAll K H3 us acc ∧ Ok K (upd B D (.lst us)) H3 H6 M' ∧ Ex H' H3, ?_, fun x H5 y => ?_⟩
      · rintro H6 ⟨acc, us, M', H3, q1, q2, q3, q4, q5, q6⟩
        exact ⟨ys.length - (i + 1), by omega, rfl, hlt, acc, us, M', H3, q1, q2, q3, q4, q5, q6⟩
      · obtain ⟨d, H6, y1, y2, k6, e6⟩ := w.item hlt k3 e3 (ig i acc M' hi hI) y
        have q0 := is i d acc M' y1 hI hal _ H6 H5 (L2.wipe σ vs) x k6 (((s.mono e).mono (e3.trans e6)).wipe' vs) y2 (fun σ2 H2 => t σ2 H2 fun b H3 =>
            if b = true then te σ2 H3 fun y H4 => ∃ acc, H4 D = some (.lst acc) ∧ acc.length < sizeLine ∧ (fun H6 => ∃ acc us M' H3, I (i + 1) acc M' ∧ acc.length ≤ i + 1 ∧ H6 D = some (.lst us) ∧ RpAll K H3 us acc ∧ Ok K (upd B D (.lst us)) H3 H6 M' ∧ Ex H' H3) (upd H4 D (.lst (acc ++ [y])))
            else (fun H6 => ∃ acc us M' H3, I (i + 1) acc M' ∧ acc.length ≤ i + 1 ∧ H6 D = some (.lst us) ∧ RpAll K H3 us acc ∧ Ok K (upd B D (.lst us)) H3 H6 M' ∧ Ex H' H3) H3)
          (fun ρ2 M2 σ2 H7 H8 z2 k7 s7 e7 => by
            refine z2 _ H7 H8 σ2 k7 s7 _ fun b M3 H9 H10 z3 k9 e9 => ?_
            cases b with
            | false => exact iteF ⟨acc, us, M3, H9, z3.2 rfl, by omega, k9.b D _ upd_same, ra.mono ((e6.trans e7).trans e9), k9, ((e3.trans e6).trans e7).trans e9⟩
            | true =>
              refine iteT (z3.1 rfl _ H9 H10 σ2 k9 (s7.mono e9) _ fun v y M4 H11 H12 z4 k11 e11 r11 => ?_)
              have hl : us.length = acc.length := ra.length
              have hD11 : H11 D = none := k11.bh D _ upd_same
              refine ⟨us, k11.b D _ upd_same, by omega, acc ++ [y], us ++ [v], M4, H11, z4, by rw [List.length_append, List.length_singleton]; omega, upd_same, (ra.mono (((e6.trans e7).trans e9).trans e11)).append (.one r11), ?_, (((e3.trans e6).trans e7).trans e9).trans e11⟩
              refine ⟨fun a u ea => ?_, fun a u ea => ?_, k11.h.mut hD11, fun a c ea => ?_⟩
              · by_cases hc : a = D
                · rw [hc] at ea ⊢
                  rw [upd_same] at ea ⊢
                  exact ea
                · rw [upd_ne hc] at ea ⊢
                  exact k11.b a u (by rw [upd_ne hc]; exact ea)
              · by_cases hc : a = D
                · rw [hc]
                  exact hD11
                · rw [upd_ne hc] at ea
                  exact k11.bh a u (by rw [upd_ne hc]; exact ea)
              · obtain ⟨m1, m2, m3⟩ := k11.m a c ea
                have hc : a ≠ D := fun zz => by
                  rw [zz, upd_same] at m1
                  cases m1
                rw [upd_ne hc] at m1
                exact ⟨by rw [upd_ne hc]; exact m1, m2, m3.mono (Ex.refl _) (upd_ne hc)⟩)
        exact hw x σ (L2.wipe σ vs) H5 _ wipe_wipe q0
    · have hzz : i = ys.length := by omega
      subst hzz
      refine .inl ⟨w.stops _ H3 H4 M' k3 e3 (ig _ acc M' hi hI), ?_⟩
      have hD3 : H3 D = none := k3.bh D _ upd_same
      have e' : Ex H3 (upd H3 D (.lst us)) := Ex.new hD3
      refine q (.ref D) (.lst acc) M' (upd H3 D (.lst us)) H4 (id acc M' hI hal) ⟨fun a u ea => ?_, fun a u ea => ?_, fun a u ea => ?_, fun a c ea => ?_⟩ ((e.trans e3).trans e') (.lst upd_same (ra.mono e'))
      · have hc : a ≠ D := ne_of_none ea hB
        exact k3.b a u (by rw [upd_ne hc]; exact ea)
      · have hc : a ≠ D := ne_of_none ea hB
        rw [upd_ne hc]
        exact k3.bh a u (by rw [upd_ne hc]; exact ea)
      · by_cases hc : a = D
        · rw [hc] at ea ⊢
          rw [upd_same] at ea
          rw [hd]
          exact ea
        · rw [upd_ne hc] at ea
          exact k3.h a u ea
      · obtain ⟨m1, m2, m3⟩ := k3.m a c ea
        have hc : a ≠ D := fun zz => by
          rw [zz, upd_same] at m1
          cases m1
        rw [upd_ne hc] at m1
        exact ⟨m1, by rw [upd_ne hc]; exact m2, m3.mono e' rfl⟩
end
end Wk
namespace Wk
open PySem L2 Evl
mutual
def toP : Dt → PyData
  | .non => .none
  | .bl b => .bool b
  | .int i => .int i
  | .str x => .str x
  | .lst xs => .list (toPs xs)
  | .frl xs => .list (toPs xs)
  | .tup xs => .tuple (toPs xs)
  | .obj _ _ => .none
  | .raw _ => .none
  | .exc _ _ _ => .none
  | .exv _ _ => .none
  | .ftp _ => .none
def toPs : List Dt → List PyData
  | [] => []
  | x :: xs => toP x :: toPs xs
end
mutual
/-- plain data, at most so deep -/
def plain : Nat → Dt → Bool
  | _, .non => true
  | _, .bl _ => true
  | _, .int _ => true
  | _, .str x => PySem.PyData.canLay0 (.str x)
  | n, .lst xs => (n != 0) && plains (n - 1) xs
  | n, .frl xs => (n != 0) && plains (n - 1) xs
  | n, .tup xs => (n != 0) && plains (n - 1) xs
  | _, .obj _ _ => false
  | _, .raw _ => false
  | _, .exc _ _ _ => false
  | _, .exv _ _ => false
  | _, .ftp _ => false
def plains : Nat → List Dt → Bool
  | _, [] => true
  | n, x :: xs => plain n x && plains n xs
end
section
variable {K : PySem.W.Frag} {H : Hp}
mutual
theorem dp_of : ∀ {n : Nat} {v : V} {d : Dt}, Rp K H v d → plain n d = true → Dp K H v (toP d)
  | _, _, _, .non, _ => by rw [toP]; exact .non
  | _, _, _, .bl b, _ => by rw [toP]; exact .bl b
  | _, _, _, .int i, _ => by rw [toP]; exact .int i
  | _, _, _, .str x, _ => by rw [toP]; exact .str x
  | n, _, _, .lst h r, p => by
    rw [toP]
    unfold plain at p
    exact .lst (sq_of h) (dps_of r (Bool.and_eq_true_iff.mp p).2)
  | n, _, _, .frl h r, p => by
    rw [toP]
    unfold plain at p
    exact .lst h (dps_of r (Bool.and_eq_true_iff.mp p).2)
  | n, _, _, .tup h r, p => by
    rw [toP]
    unfold plain at p
    exact .tup h (dps_of r (Bool.and_eq_true_iff.mp p).2)
  | _, _, _, .obj h r, p => by
    unfold plain at p
    cases p
  | _, _, _, .raw v, p => by
    unfold plain at p
    cases p
  | _, _, _, .exc h r, p => by
    unfold plain at p
    cases p
  | _, _, _, .exv h1 h r, p => by
    unfold plain at p
    cases p
  | _, _, _, .ftp h h2 h3 r, p => by
    unfold plain at p
    cases p
theorem dps_of : ∀ {n : Nat} {vs : List V} {ds : List Dt}, RpAll K H vs ds → plains n ds = true → DpAll K H vs (toPs ds)
  | _, _, _, .nil, _ => by rw [toPs]; exact .nil
  | n, _, _, .cons h r, p => by
    rw [toPs]
    unfold plains at p
    have q := Bool.and_eq_true_iff.mp p
    exact .cons (dp_of h q.1) (dps_of r q.2)
end
end
mutual
theorem shaped_of : ∀ {n : Nat} {d : Dt}, plain n d = true → (toP d).canLay0 = true ∧ (toP d).depth ≤ n
  | n, .non, _ => by rw [toP]; exact ⟨by unfold PyData.canLay0; rfl, by unfold PyData.depth; exact Nat.zero_le _⟩
  | n, .bl b, _ => by rw [toP]; exact ⟨by unfold PyData.canLay0; rfl, by unfold PyData.depth; exact Nat.zero_le _⟩
  | n, .int i, _ => by rw [toP]; exact ⟨by unfold PyData.canLay0; rfl, by unfold PyData.depth; exact Nat.zero_le _⟩
  | n, .str x, p => by
    rw [toP]
    unfold plain at p
    exact ⟨p, by unfold PyData.depth; exact Nat.zero_le _⟩
  | n, .lst xs, p => by
    rw [toP]
    unfold plain at p
    have q := Bool.and_eq_true_iff.mp p
    have h := shaped_ofs q.2
    have hn : n ≠ 0 := by simpa using q.1
    exact ⟨by unfold PyData.canLay0; exact h.1, by unfold PyData.depth; omega⟩
  | n, .frl xs, p => by
    rw [toP]
    unfold plain at p
    have q := Bool.and_eq_true_iff.mp p
    have h := shaped_ofs q.2
    have hn : n ≠ 0 := by simpa using q.1
    exact ⟨by unfold PyData.canLay0; exact h.1, by unfold PyData.depth; omega⟩
  | n, .tup xs, p => by
    rw [toP]
    unfold plain at p
    have q := Bool.and_eq_true_iff.mp p
    have h := shaped_ofs q.2
    have hn : n ≠ 0 := by simpa using q.1
    exact ⟨by unfold PyData.canLay0; exact h.1, by unfold PyData.depth; omega⟩
  | n, .obj _ _, p => by
    unfold plain at p
    cases p
  | n, .raw _, p => by
    unfold plain at p
    cases p
  | n, .exc _ _ _, p => by
    unfold plain at p
    cases p
  | n, .exv _ _, p => by
    unfold plain at p
    cases p
  | n, .ftp _, p => by
    unfold plain at p
    cases p
theorem shaped_ofs : ∀ {n : Nat} {ds : List Dt}, plains n ds = true → PyData.canLayAll0 (toPs ds) = true ∧ PyData.depthAll (toPs ds) ≤ n
  | n, [], _ => by rw [toPs]; exact ⟨by unfold PyData.canLayAll0; rfl, by unfold PyData.depthAll; exact Nat.zero_le _⟩
  | n, x :: xs, p => by
    rw [toPs]
    unfold plains at p
    have q := Bool.and_eq_true_iff.mp p
    have h1 := shaped_of q.1
    have h2 := shaped_ofs q.2
    exact ⟨by unfold PyData.canLayAll0; rw [h1.1, h2.1] <;> rfl, by unfold PyData.depthAll; omega⟩
end
theorem shaped_by {d : Dt} (h : plain 60 d = true) : SeqAt.shaped (toP d) = true := by
  have q := shaped_of h
  unfold SeqAt.shaped
  rw [q.1, Bool.true_and]
  exact decide_eq_true (by omega)
def eqB (x y : Dt) : Bool := PyData.eqv (toP x) (toP y)
def CPowW (i j : Int) : Prop := 0 ≤ j ∧ (Builtin.Int.intBits i : Int) * j ≤ 2 ^ 27
def rAddA (K : PySem.W.Frag) : R2 := fun x y H Q => rI0 (fun i j => .int (i + j)) x y H Q ∨ (∃ i j, x = .str i ∧ y = .str j ∧ i.length + j.length ≤ sizeLine ∧ Q (.str (i ++ j)) H) ∨ rCatA K x y H Q ∨ rCat x y H Q
def rMulA (K : PySem.W.Frag) : R2 := fun x y H Q => rI CMulW (fun i j => .int (i * j)) x y H Q ∨ rI CMul (fun i j => .int (i * j)) x y H Q ∨ rRep x y H Q ∨ rRepT K x y H Q
def rEqA (K : PySem.W.Frag) : R2 := fun x y H Q => rEq x y H Q ∨ rEqD K x y H Q
def rNeA (K : PySem.W.Frag) : R2 := fun x y H Q => rNe x y H Q ∨ rNeD K x y H Q
def rSlAny (K : PySem.W.Frag) : V → Option Int → Option Int → Hp → VK → Prop := fun x lo hi H Q => rSlL K x lo hi H Q ∨ rSlA K x lo hi H Q ∨ rSlS x lo hi H Q
def rLenA (K : PySem.W.Frag) : List V → Hp → VK → Prop := fun xs H Q => (∃ p ys, xs = [.ref p] ∧ (SqL K H p ys ∨ SqT K H p ys) ∧ Q (.int ys.length) H) ∨ (∃ z, xs = [.str z] ∧ z.length ≤ sizeLine ∧ Q (.int z.length) H)
section
variable {X : Cx}
theorem op_addA : OpR X (binaryOp .Add) (rAddA X.K) := op_add.or (op_add_str.or (op_catA.or op_cat))
theorem op_powW : OpR X (binaryOp .Pow) (rI CPowW fun i j => .int (i ^ j.toNat)) := opI fun _ _ _ _ _ _ _ hc q => PyProof.Rows.pow_int hc.1 hc.2 q
theorem op_mulA : OpR X (binaryOp .Mult) (rMulA X.K) := op_mulW.or (op_mul.or (op_rep.or op_repT))
theorem op_eqA (hu : X.A.units + 64 < cLine) : OpR X (compareOp .Eq) (rEqA X.K) := op_eq.or (op_eqD hu)
theorem op_neA (hu : X.A.units + 64 < cLine) : OpR X (compareOp .NotEq) (rNeA X.K) := op_ne.or (op_neD hu)
theorem sl_any : SlR X (rSlAny X.K) := sl_list.or (sl_tupA.or sl_str)
theorem call_lenA : CallR X (.builtin "len") (rLenA X.K) := call_len_seq.or call_len_str
end
section
variable {K : PySem.W.Frag} {M : Mm} {Φ : Dt → Mm → Prop}
theorem rx_done {r : R2} {x y : Dt} {z : V} {d : Dt} (h : ∀ H vx vy Q, Rp K H vx x → Rp K H vy y → Q z H → r vx vy H Q) (hr : ∀ H, Rp K H z d) (k : Φ d M) : RX K r x y M Φ := fun B H H1 vx vy o rx ry Q q =>
  h H1 vx vy Q (rx.mono o.h) (ry.mono o.h) (q z d M H H1 k o (Ex.refl H) (hr H))
/-- ints -/
theorem rx_I0i {g : Int → Int → Int} {i j : Int} (k : Φ (.int (g i j)) M) : RX K (rI0 fun i j => .int (g i j)) (.int i) (.int j) M Φ := rx_done (fun H vx vy Q rx ry q => ⟨i, j, rx.int_inv, ry.int_inv, q⟩) (fun _ => .int _) k
theorem rx_I0b {g : Int → Int → Bool} {i j : Int} (k : Φ (.bl (g i j)) M) : RX K (rI0 fun i j => .bl (g i j)) (.int i) (.int j) M Φ := rx_done (fun H vx vy Q rx ry q => ⟨i, j, rx.int_inv, ry.int_inv, q⟩) (fun _ => .bl _) k
theorem rx_Ii {C : Int → Int → Prop} {g : Int → Int → Int} {i j : Int} (hc : C i j) (k : Φ (.int (g i j)) M) : RX K (rI C fun i j => .int (g i j)) (.int i) (.int j) M Φ := rx_done (fun H vx vy Q rx ry q => ⟨i, j, rx.int_inv, ry.int_inv, hc, q⟩) (fun _ => .int _) k
theorem rx_add_int {i j : Int} (k : Φ (.int (i + j)) M) : RX K (rAddA K) (.int i) (.int j) M Φ := rx_done (fun H vx vy Q rx ry q => .inl ⟨i, j, rx.int_inv, ry.int_inv, q⟩) (fun _ => .int _) k
theorem rx_add_str {i j : Str} (hl : i.length + j.length ≤ sizeLine) (k : Φ (.str (i ++ j)) M) : RX K (rAddA K) (.str i) (.str j) M Φ := rx_done (fun H vx vy Q rx ry q => .inr (.inl ⟨i, j, rx.str_inv, ry.str_inv, hl, q⟩)) (fun _ => .str _) k
theorem rx_add_tup {xs ys : List Dt} (hl : xs.length + ys.length ≤ sizeLine) (k : Φ (.tup (xs ++ ys)) M) : RX K (rAddA K) (.tup xs) (.tup ys) M Φ := fun B H H1 vx vy o rx ry Q q => by
  obtain ⟨a, us, rfl, h1, r1⟩ := rx.tup_inv
  obtain ⟨b, ws, rfl, h2, r2⟩ := ry.tup_inv
  refine .inr (.inr (.inl ⟨a, b, us, ws, rfl, rfl, ex_t o.h h1, ex_t o.h h2, by rw [r1.length, r2.length]; exact hl, fun e => ?_, fun _ e => ?_, fun _ _ p hp => ?_⟩))
  · have ex : xs = [] := List.length_eq_zero_iff.mp (by rw [← r1.length, e] <;> rfl)
    refine q _ _ M H H1 k o (Ex.refl H) ?_
    rw [ex]
    exact .tup h2 r2
  · have ex : ys = [] := List.length_eq_zero_iff.mp (by rw [← r2.length, e] <;> rfl)
    refine q _ _ M H H1 k o (Ex.refl H) ?_
    rw [ex, List.append_nil]
    exact .tup h1 r1
  · have e := Ex.new (o := .tup (us ++ ws)) (fresh_back o.h hp)
    exact q _ _ M _ _ k (o.grow hp) e (.tup (st_of upd_same) ((r1.append r2).mono e))
theorem rx_add_lst {xs ys : List Dt} (hl : xs.length + ys.length ≤ sizeLine) (k : Φ (.lst (xs ++ ys)) M) : RX K (rAddA K) (.lst xs) (.lst ys) M Φ := fun B H H1 vx vy o rx ry Q q => by
  obtain ⟨a, us, rfl, h1, r1⟩ := rx.lst_inv
  obtain ⟨b, ws, rfl, h2, r2⟩ := ry.lst_inv
  refine .inr (.inr (.inr ⟨a, b, us, ws, rfl, rfl, o.h _ _ h1, o.h _ _ h2, by rw [r1.length, r2.length]; exact hl, fun p hp => ?_⟩))
  have e := Ex.new (o := .lst (us ++ ws)) (fresh_back o.h hp)
  exact q _ _ M _ _ k (o.grow hp) e (.lst upd_same ((r1.append r2).mono e))
theorem rx_mul_int {i j : Int} (hc : CMulW i j ∨ CMul i j) (k : Φ (.int (i * j)) M) : RX K (rMulA K) (.int i) (.int j) M Φ := rx_done (fun H vx vy Q rx ry q => hc.elim (fun hc => .inl ⟨i, j, rx.int_inv, ry.int_inv, hc, q⟩) fun hc => .inr (.inl ⟨i, j, rx.int_inv, ry.int_inv, hc, q⟩)) (fun _ => .int _) k
theorem rx_eq_int {i j : Int} (k : Φ (.bl (decide (i = j))) M) : RX K (rEqA K) (.int i) (.int j) M Φ := rx_done (z := .bl (decide (V.int i = V.int j))) (fun H vx vy Q rx ry q => .inl ⟨by rw [rx.int_inv, ry.int_inv]; rfl, by rw [rx.int_inv, ry.int_inv]; exact q⟩) (fun _ => by
  have e : decide (V.int i = V.int j) = decide (i = j) := decide_eq_decide.mpr ⟨fun e => by injection e, fun e => by rw [e]⟩
  rw [e]
  exact .bl _) k
theorem rx_ne_int {i j : Int} (k : Φ (.bl (!decide (i = j))) M) : RX K (rNeA K) (.int i) (.int j) M Φ := rx_done (z := .bl (!decide (V.int i = V.int j))) (fun H vx vy Q rx ry q => .inl ⟨by rw [rx.int_inv, ry.int_inv]; rfl, by rw [rx.int_inv, ry.int_inv]; exact q⟩) (fun _ => by
  have e : decide (V.int i = V.int j) = decide (i = j) := decide_eq_decide.mpr ⟨fun e => by injection e, fun e => by rw [e]⟩
  rw [e]
  exact .bl _) k
theorem rx_eq_str {i j : Str} (k : Φ (.bl (decide (i = j))) M) : RX K (rEqA K) (.str i) (.str j) M Φ := rx_done (z := .bl (decide (V.str i = V.str j))) (fun H vx vy Q rx ry q => .inl ⟨by rw [rx.str_inv, ry.str_inv]; rfl, by rw [rx.str_inv, ry.str_inv]; exact q⟩) (fun _ => by
  have e : decide (V.str i = V.str j) = decide (i = j) := decide_eq_decide.mpr ⟨fun e => by injection e, fun e => by rw [e]⟩
  rw [e]
  exact .bl _) k
theorem rx_ne_str {i j : Str} (k : Φ (.bl (!decide (i = j))) M) : RX K (rNeA K) (.str i) (.str j) M Φ := rx_done (z := .bl (!decide (V.str i = V.str j))) (fun H vx vy Q rx ry q => .inl ⟨by rw [rx.str_inv, ry.str_inv]; rfl, by rw [rx.str_inv, ry.str_inv]; exact q⟩) (fun _ => by
  have e : decide (V.str i = V.str j) = decide (i = j) := decide_eq_decide.mpr ⟨fun e => by injection e, fun e => by rw [e]⟩
  rw [e]
  exact .bl _) k
theorem rx_eq_bl {i j : Bool} (k : Φ (.bl (decide (i = j))) M) : RX K (rEqA K) (.bl i) (.bl j) M Φ := rx_done (z := .bl (decide (V.bl i = V.bl j))) (fun H vx vy Q rx ry q => .inl ⟨by rw [rx.bl_inv, ry.bl_inv]; rfl, by rw [rx.bl_inv, ry.bl_inv]; exact q⟩) (fun _ => by
  have e : decide (V.bl i = V.bl j) = decide (i = j) := decide_eq_decide.mpr ⟨fun e => by injection e, fun e => by rw [e]⟩
  rw [e]
  exact .bl _) k
theorem rx_ne_bl {i j : Bool} (k : Φ (.bl (!decide (i = j))) M) : RX K (rNeA K) (.bl i) (.bl j) M Φ := rx_done (z := .bl (!decide (V.bl i = V.bl j))) (fun H vx vy Q rx ry q => .inl ⟨by rw [rx.bl_inv, ry.bl_inv]; rfl, by rw [rx.bl_inv, ry.bl_inv]; exact q⟩) (fun _ => by
  have e : decide (V.bl i = V.bl j) = decide (i = j) := decide_eq_decide.mpr ⟨fun e => by injection e, fun e => by rw [e]⟩
  rw [e]
  exact .bl _) k
/-- == of data -/
theorem rx_eqD {x y : Dt} (hx : plain 60 x = true) (hy : plain 60 y = true) (k : Φ (.bl (eqB x y)) M) : RX K (rEqA K) x y M Φ := rx_done (fun H vx vy Q rx ry q => .inr ⟨toP x, toP y, dp_of rx hx, dp_of ry hy, shaped_by hx, shaped_by hy, q⟩) (fun _ => .bl _) k
theorem atI_get {vs : List V} {ds : List Dt} {H : Hp} {i : Int} {d : Dt} (r : RpAll K H vs ds) (h : atI ds i = some d) : ∃ v, atI vs i = some v ∧ Rp K H v d := by
  unfold atI at h ⊢
  rw [r.length]
  cases e : ixN ds.length i with
  | none =>
    rw [e] at h
    cases h
  | some j =>
    rw [e] at h
    exact r.get h
theorem rx_ix_lst {xs : List Dt} {i : Int} {d : Dt} (h : atI xs i = some d) (k : Φ d M) : RX K (rIx K) (.lst xs) (.int i) M Φ := fun B H H1 vx vy o rx ry Q q => by
  obtain ⟨a, us, rfl, h1, r1⟩ := rx.lst_inv
  obtain ⟨v, h2, r2⟩ := atI_get r1 h
  exact .inl ⟨a, us, i, v, rfl, ry.int_inv, sq_of (o.h _ _ h1), h2, q v d M H H1 k o (Ex.refl H) r2⟩
theorem rx_ix_frl {xs : List Dt} {i : Int} {d : Dt} (h : atI xs i = some d) (k : Φ d M) : RX K (rIx K) (.frl xs) (.int i) M Φ := fun B H H1 vx vy o rx ry Q q => by
  obtain ⟨a, us, rfl, h1, r1⟩ := rx.frl_inv
  obtain ⟨v, h2, r2⟩ := atI_get r1 h
  exact .inl ⟨a, us, i, v, rfl, ry.int_inv, ex_l o.h h1, h2, q v d M H H1 k o (Ex.refl H) r2⟩
theorem rx_ix_cell {a : Addr} {xs : List Dt} {i : Int} {d : Dt} (hm : M a = some (.lst xs)) (h : atI xs i = some d) (k : Φ d M) : RX K (rIx K) (.raw (.ref a)) (.int i) M Φ := fun B H H1 vx vy o rx ry Q q => by
  obtain ⟨m1, m2, us, h1, r1⟩ := o.m a _ hm
  obtain ⟨v, h2, r2⟩ := atI_get r1 h
  exact .inl ⟨a, us, i, v, rx.raw_inv, ry.int_inv, sq_of h1, h2, q v d M H H1 k o (Ex.refl H) r2⟩
theorem rx_ix_tup {xs : List Dt} {i : Int} {d : Dt} (h : atI xs i = some d) (k : Φ d M) : RX K (rIx K) (.tup xs) (.int i) M Φ := fun B H H1 vx vy o rx ry Q q => by
  obtain ⟨a, us, rfl, h1, r1⟩ := rx.tup_inv
  obtain ⟨v, h2, r2⟩ := atI_get r1 h
  exact .inr (.inl ⟨a, us, i, v, rfl, ry.int_inv, ex_t o.h h1, h2, q v d M H H1 k o (Ex.refl H) r2⟩)
theorem rx_ix_str {z : Str} {i : Int} {c : Nat} (hl : z.length ≤ sizeLine) (h : atI z.cps.toList i = some c) (k : Φ (.str ⟨#[c]⟩) M) : RX K (rIx K) (.str z) (.int i) M Φ := rx_done (fun H vx vy Q rx ry q => .inr (.inr ⟨z, i, c, rx.str_inv, ry.int_inv, hl, h, q⟩)) (fun _ => .str _) k
def cutD (xs : List Dt) (lo hi : Option Int) : List Dt := (xs.drop (HT.sIx xs.length 0 lo)).take (HT.sIx xs.length xs.length hi - HT.sIx xs.length 0 lo)
theorem cut_rp {H : Hp} {vs : List V} {ds : List Dt} {lo hi : Option Int} (r : RpAll K H vs ds) : RpAll K H (cutV vs lo hi) (cutD ds lo hi) := by
  unfold cutV cutD
  rw [r.length]
  exact (r.drop _).take _
theorem lx_lst {xs : List Dt} {lo hi : Option Int} (k : Φ (.lst (cutD xs lo hi)) M) : LX K (rSlAny K) (.lst xs) lo hi M Φ := fun B H H1 vx o rx Q q => by
  obtain ⟨a, us, rfl, h1, r1⟩ := rx.lst_inv
  refine .inl ⟨a, us, rfl, sq_of (o.h _ _ h1), fun p hp => ?_⟩
  have e := Ex.new (o := .lst (cutV us lo hi)) (fresh_back o.h hp)
  exact q _ _ M _ _ k (o.grow hp) e (.lst upd_same ((cut_rp r1).mono e))
theorem lx_tup {xs : List Dt} {lo hi : Option Int} (k : Φ (.tup (cutD xs lo hi)) M) : LX K (rSlAny K) (.tup xs) lo hi M Φ := fun B H H1 vx o rx Q q => by
  obtain ⟨a, us, rfl, h1, r1⟩ := rx.tup_inv
  refine .inr (.inl ⟨a, us, rfl, ex_t o.h h1, fun e => ?_, fun _ p hp => ?_⟩)
  · refine q _ _ M H H1 k o (Ex.refl H) ?_
    have e2 : cutD xs lo hi = xs := by
      rw [r1.length] at e
      unfold cutD
      rw [e.1, e.2, List.drop_zero, Nat.sub_zero, List.take_length]
    rw [e2]
    exact .tup h1 r1
  · have e := Ex.new (o := .tup (cutV us lo hi)) (fresh_back o.h hp)
    exact q _ _ M _ _ k (o.grow hp) e (.tup (st_of upd_same) ((cut_rp r1).mono e))
theorem lx_str {z : Str} {lo hi : Option Int} (hl : z.length ≤ sizeLine) (k : Φ (.str (cutS z lo hi)) M) : LX K (rSlAny K) (.str z) lo hi M Φ := fun B H H1 vx o rx Q q => .inr (.inr ⟨z, rx.str_inv, hl, q _ _ M H H1 k o (Ex.refl H) (.str _)⟩)
theorem cx_one {r : List V → Hp → VK → Prop} {x : Dt} {z : V} {d : Dt} (h : ∀ H vx Q, Rp K H vx x → Q z H → r [vx] H Q) (hr : ∀ H, Rp K H z d) (k : Φ d M) : CX K r [x] M Φ := fun B H H1 vs o rx Q q => by
  cases rx with
  | cons rx rr =>
    cases rr
    exact h H1 _ Q (rx.mono o.h) (q z d M H H1 k o (Ex.refl H) (hr H))
theorem cx_len_tup {xs : List Dt} (k : Φ (.int xs.length) M) : CX K (rLenA K) [.tup xs] M Φ := fun B H H1 vs o rx Q q => by
  cases rx with
  | cons rx rr =>
    cases rr
    obtain ⟨a, us, rfl, h1, r1⟩ := rx.tup_inv
    exact .inl ⟨a, us, rfl, .inr (ex_t o.h h1), q _ _ M H H1 k o (Ex.refl H) (by rw [r1.length]; exact .int _)⟩
theorem cx_len_lst {xs : List Dt} (k : Φ (.int xs.length) M) : CX K (rLenA K) [.lst xs] M Φ := fun B H H1 vs o rx Q q => by
  cases rx with
  | cons rx rr =>
    cases rr
    obtain ⟨a, us, rfl, h1, r1⟩ := rx.lst_inv
    exact .inl ⟨a, us, rfl, .inl (sq_of (o.h _ _ h1)), q _ _ M H H1 k o (Ex.refl H) (by rw [r1.length]; exact .int _)⟩
theorem cx_len_frl {xs : List Dt} (k : Φ (.int xs.length) M) : CX K (rLenA K) [.frl xs] M Φ := fun B H H1 vs o rx Q q => by
  cases rx with
  | cons rx rr =>
    cases rr
    obtain ⟨a, us, rfl, h1, r1⟩ := rx.frl_inv
    exact .inl ⟨a, us, rfl, .inl (ex_l o.h h1), q _ _ M H H1 k o (Ex.refl H) (by rw [r1.length]; exact .int _)⟩
theorem cx_len_cell {a : Addr} {xs : List Dt} (hm : M a = some (.lst xs)) (k : Φ (.int xs.length) M) : CX K (rLenA K) [.raw (.ref a)] M Φ := fun B H H1 vs o rx Q q => by
  cases rx with
  | cons rx rr =>
    cases rr
    obtain ⟨m1, m2, us, h1, r1⟩ := o.m a _ hm
    exact .inl ⟨a, us, by rw [rx.raw_inv], .inl (sq_of h1), q _ _ M H H1 k o (Ex.refl H) (by rw [r1.length]; exact .int _)⟩
end
end Wk
namespace Wk
open PySem L2 Evl
def rng (lo : Int) (n : Nat) : List Dt := (List.range n).map fun (i : Nat) => Dt.int (lo + (i : Nat))
theorem rng_len {lo : Int} {n : Nat} : (rng lo n).length = n := by unfold rng; rw [List.length_map, List.length_range]
theorem rng_get {lo : Int} {n i : Nat} {d : Dt} (h : (rng lo n)[i]? = some d) : i < n ∧ d = .int (lo + i) := by
  unfold rng at h
  rw [List.getElem?_map] at h
  cases e : (List.range n)[i]? with
  | none =>
    rw [e] at h
    cases h
  | some j =>
    rw [e] at h
    have q := List.getElem?_eq_some_iff.mp e
    obtain ⟨h1, h2⟩ := q
    rw [List.length_range] at h1
    rw [List.getElem_range] at h2
    cases h
    exact ⟨h1, by rw [h2]⟩
theorem rng_at {lo : Int} {n i : Nat} (h : i < n) : (rng lo n)[i]? = some (.int (lo + i)) := by
  unfold rng
  rw [List.getElem?_map, List.getElem?_range h]
  rfl
section
variable {K : PySem.W.Frag} {ρ : Rho} {M : Mm} {Ψ : List Dt → (Mm → Prop) → Mm → Prop} {ta : TA} {te : TE}
theorem ix_rng1 (h : AX K ta ρ M (fun ds M1 => ∃ j : Int, ds = [.int j] ∧ j < 2 ^ 62 ∧ -(2 ^ 62) ≤ j ∧ Ψ (rng 0 j.toNat) (fun _ => True) M1)) : IX K (iRng1 ta) ρ M Ψ := fun B H H1 σ o s R q =>
  h B H H1 σ o s _ fun vs ds M' H' H2 z k e r => by
    obtain ⟨j, rfl, h1, h2, z⟩ := z
    cases r with
    | cons r rr =>
      cases rr
      refine ⟨j, by rw [r.int_inv], h2, h1, q _ _ _ M' H' H2 z k e ⟨fun i _ _ _ _ hi _ _ _ => by rw [rng_len] at hi; exact hi, fun _ _ _ _ _ _ _ => by rw [rng_len]; exact Nat.le_refl _, fun i x H5 _ H3 H4 M3 hi _ _ _ y => ?_⟩⟩
      rw [rng_len] at hi
      obtain ⟨y1, y2⟩ := y
      refine .inl ⟨y1, _, rng_at hi, ?_⟩
      rw [y2]
      exact .int _
/-- a list or a tuple -/
def iAny (K : PySem.W.Frag) (te : TE) : TI := fun σ H R => te σ H fun x H1 => (∃ a, x = .ref a ∧ (∃ xs, SqL K H1 a xs) ∧ R (Itl K a) H1) ∨ (∃ a, x = .ref a ∧ (∃ xs, SqT K H1 a xs) ∧ R (Itt K a) H1)
end
section
open PySem.Spec PyProof.Rows
variable {X : Cx} {tg : Expr}
theorem pi_any {l : Expr} {tl : TE} (hl : PE X l tl) : PI X tg l (iAny X.K tl) := by
  refine ⟨fun pins s σ H R I h => ?_⟩
  refine thn (hl.run pins s σ H _ I h) fun v s1 ⟨x, H1, I1, r1, q1⟩ => ?_
  rcases q1 with ⟨a, e, ⟨xs, hq⟩, q⟩ | ⟨a, e, ⟨xs, hq⟩, q⟩
  · subst e
    cases r1
    obtain ⟨its, rv, p, hz⟩ := I1.list hq
    refine wpAny_pyIter_list p.isList ?_
    refine ⟨s1.heap.objs.size, [s1.heap.objs.size], _, _, H1, rfl, I1.kept (t' := s1.toks) fun b o e => Heap.get?_push_of_some _ e, turn_list a _, ⟨_, Heap.get?_push_size _ rfl, rfl, rfl⟩, fun b hb => ?_, q⟩
    have e : b = s1.heap.objs.size := by simpa using hb
    subst e
    exact I1.fpOk (Nat.le_refl _) (I1.hok.fresh (Nat.le_refl _))
  · subst e
    cases r1
    obtain ⟨its, rv, p, hz⟩ := I1.tuple hq
    refine wpAny_pyIter_tuple (show s1.heap.IsTuple a its.toArray from p) ?_
    refine ⟨s1.heap.objs.size, [s1.heap.objs.size], _, _, H1, rfl, I1.kept (t' := s1.toks) fun b o e => Heap.get?_push_of_some _ e, turn_tuple a _, ⟨_, Heap.get?_push_size _ rfl, rfl, rfl⟩, fun b hb => ?_, q⟩
    have e : b = s1.heap.objs.size := by simpa using hb
    subst e
    exact I1.fpOk (Nat.le_refl _) (I1.hok.fresh (Nat.le_refl _))
end
section
variable {K : PySem.W.Frag} {ρ : Rho} {M : Mm} {Ψ : List Dt → (Mm → Prop) → Mm → Prop} {ta : TA} {te : TE}
theorem walk_lst {H' : Hp} {a : Addr} {us : List V} {xs : List Dt} {G : Mm → Prop} (h : ∀ B H3 H4 M3, Ok K B H3 H4 M3 → Ex H' H3 → G M3 → ∃ us, SqL K H4 a us ∧ RpAll K H3 us xs) : WalkD K (Itl K a) G H' xs where
  goes := fun i B H3 H4 M3 hi o e g => by
    obtain ⟨us, h1, r⟩ := h B H3 H4 M3 o e g
    have hi' : i < us.length := by rw [r.length]; exact hi
    exact ⟨us, us[i], h1, List.getElem?_eq_getElem hi'⟩
  stops := fun B H3 H4 M3 o e g => by
    obtain ⟨us, h1, r⟩ := h B H3 H4 M3 o e g
    exact ⟨us, h1, by rw [r.length]; exact Nat.le_refl _⟩
  yields := fun i x H5 B H3 H4 M3 hi o e g y => by
    obtain ⟨us, h1, r⟩ := h B H3 H4 M3 o e g
    obtain ⟨d, h2, h3⟩ := r.getV (y.2 us h1)
    exact .inl ⟨y.1, d, h2, h3⟩
theorem walk_tupD {H' : Hp} {a : Addr} {us : List V} {xs : List Dt} {G : Mm → Prop} (h : ∀ B H3 H4 M3, Ok K B H3 H4 M3 → Ex H' H3 → G M3 → ∃ us, SqT K H4 a us ∧ RpAll K H3 us xs) : WalkD K (Itt K a) G H' xs where
  goes := fun i B H3 H4 M3 hi o e g => by
    obtain ⟨us, h1, r⟩ := h B H3 H4 M3 o e g
    have hi' : i < us.length := by rw [r.length]; exact hi
    exact ⟨us, us[i], h1, List.getElem?_eq_getElem hi'⟩
  stops := fun B H3 H4 M3 o e g => by
    obtain ⟨us, h1, r⟩ := h B H3 H4 M3 o e g
    exact ⟨us, h1, by rw [r.length]; exact Nat.le_refl _⟩
  yields := fun i x H5 B H3 H4 M3 hi o e g y => by
    obtain ⟨us, h1, r⟩ := h B H3 H4 M3 o e g
    obtain ⟨d, h2, h3⟩ := r.getV (y.2 us h1)
    exact .inl ⟨y.1, d, h2, h3⟩
/-- what stands at a value that is walked, read at each turn: its items, and what must stay true of what may change -/
def WSrc (M : Mm) (d : Dt) (xs : List Dt) (G : Mm → Prop) : Prop := ((d = .lst xs ∨ d = .frl xs ∨ d = .tup xs) ∧ G = fun _ => True) ∨ ∃ a, d = .raw (.ref a) ∧ M a = some (.lst xs) ∧ G = fun M' => M' a = some (.lst xs)
theorem ix_any (h : EX K te ρ M (fun d M1 => ∃ xs G, WSrc M1 d xs G ∧ Ψ xs G M1)) : IX K (iAny K te) ρ M Ψ := fun B H H1 σ o s R q =>
  h B H H1 σ o s _ fun v d M' H' H2 z k e r => by
    obtain ⟨xs, G, hs, z⟩ := z
    rcases hs with ⟨rfl | rfl | rfl, rfl⟩ | ⟨a, rfl, hm, rfl⟩
    · obtain ⟨a, us, rfl, h1, r1⟩ := r.lst_inv
      exact .inl ⟨a, rfl, ⟨us, sq_of (k.h _ _ h1)⟩, q _ _ _ M' H' H2 z k e (walk_lst (us := us) fun B H3 H4 M3 o e g => ⟨us, sq_of (o.h _ _ (e _ _ h1)), r1.mono e⟩)⟩
    · obtain ⟨a, us, rfl, h1, r1⟩ := r.frl_inv
      exact .inl ⟨a, rfl, ⟨us, ex_l k.h h1⟩, q _ _ _ M' H' H2 z k e (walk_lst (us := us) fun B H3 H4 M3 o e g => ⟨us, ex_l o.h (ex_l e h1), r1.mono e⟩)⟩
    · obtain ⟨a, us, rfl, h1, r1⟩ := r.tup_inv
      exact .inr ⟨a, rfl, ⟨us, ex_t k.h h1⟩, q _ _ _ M' H' H2 z k e (walk_tupD (us := us) fun B H3 H4 M3 o e g => ⟨us, ex_t o.h (ex_t e h1), r1.mono e⟩)⟩
    · obtain ⟨m1, m2, us, h1, r1⟩ := k.m a _ hm
      exact .inl ⟨a, r.raw_inv, ⟨us, sq_of h1⟩, q _ _ _ M' H' H2 z k e (walk_lst (us := us) fun B H3 H4 M3 o e g => by
        obtain ⟨m1, m2, us, h1, r1⟩ := o.m a _ g
        exact ⟨us, sq_of h1, r1⟩)⟩
end
/-- α: what a call is about; pre: its arguments and what may change, post: what is handed back -/
def SpD (K : PySem.W.Frag) {α : Type} (pre : α → List Dt → Mm → Prop) (post : α → Mm → Dt → Mm → Prop) : Sp := fun vs H1 Q _ => ∃ (x : α) (B H : Hp) (M : Mm) (ds : List Dt), Ok K B H H1 M ∧ RpAll K H vs ds ∧ pre x ds M ∧
  ∀ v d M' H' H2, post x M d M' → Ok K B H' H2 M' → Ex H H' → Rp K H' v d → Q v H2
/-- a function of data -/
abbrev SpP (K : PySem.W.Frag) {α : Type} (enc : α → List Dt) (ok : α → Prop) (f : α → Dt) : Sp := SpD K (fun x ds _ => ds = enc x ∧ ok x) (fun x M d M' => d = f x ∧ M' = M)
def startD (N : List Str) (ds : List Dt) : Rho := ds.map some ++ List.replicate (N.length - ds.length) none
/-- behind a def's return: what is promised of it, its own lists forgotten -/
abbrev retE (post : Dt → Mm → Prop) : Es := ⟨fun _ M' => ∃ M'', Sub M'' M' ∧ post .non M'', fun d M' => ∃ M'', Sub M'' M' ∧ post d M'', fun _ _ => False, fun _ _ => False⟩
section
variable {K : PySem.W.Frag}
theorem rp_map {H : Hp} : ∀ {vs : List V} {ds : List Dt} {i : Nat} {d : Dt}, RpAll K H vs ds → (ds.map some)[i]? = some (some d) → ∃ v, (vs.map some)[i]? = some (some v) ∧ Rp K H v d := fun {vs ds i d} r h => by
  rw [List.getElem?_map] at h
  cases e : ds[i]? with
  | none =>
    rw [e] at h
    cases h
  | some x =>
    rw [e] at h
    cases h
    obtain ⟨v, h1, h2⟩ := r.get e
    exact ⟨v, by rw [List.getElem?_map, h1] <;> rfl, h2⟩
theorem slOk_start {H : Hp} {vs : List V} {ds : List Dt} {N : List Str} (r : RpAll K H vs ds) : SlOk K H (L2.start N vs) (startD N ds) := by
  have hl := r.length
  refine ⟨?_, fun i d h => ?_⟩
  · unfold L2.start startD
    rw [List.length_append, List.length_append, List.length_map, List.length_map, List.length_replicate, List.length_replicate, hl]
  · unfold L2.start
    unfold startD at h
    by_cases hi : i < ds.length
    · rw [List.getElem?_append_left (by rw [List.length_map]; exact hi)] at h
      rw [List.getElem?_append_left (by rw [List.length_map, hl]; exact hi)]
      exact rp_map r h
    · rw [List.getElem?_append_right (by rw [List.length_map]; omega), List.getElem?_replicate] at h
      split at h <;> cases h
section
variable {α : Type} {pre : α → List Dt → Mm → Prop} {post : α → Mm → Dt → Mm → Prop}
theorem enter {N : List Str} {vs : List V} {H1 : Hp} {Q : VK} {E : XK} {t : TS} (h : SpD K pre post vs H1 Q E)
    (body : ∀ x ds M, pre x ds M → SX K t (startD N ds) M (retE (post x M))) : t { nx := fun _ H' => Q .non H', rt := Q } (L2.start N vs) H1 := by
  obtain ⟨x, B, H, M, ds, o, r, hp, q⟩ := h
  refine body x ds M hp B H H1 (L2.start N vs) _ o (slOk_start r) ⟨fun ρ' M' σ' H' H2 z k s e => ?_, fun v d M' H' H2 z k e rv => ?_, fun _ _ _ _ _ z => z.elim, fun _ _ _ _ _ z => z.elim⟩
  · obtain ⟨M'', sb, z⟩ := z
    exact q .non .non M'' H' H2 z (k.sub sb) e .non
  · obtain ⟨M'', sb, z⟩ := z
    exact q v d M'' H' H2 z (k.sub sb) e rv
theorem spD_len {n : Nat} (h : ∀ x ds M, pre x ds M → ds.length = n) : ∀ vs H Q E, SpD K pre post vs H Q E → vs.length = n := fun vs H1 Q E ⟨x, B, H, M, ds, o, r, hp, q⟩ => by
  rw [r.length]
  exact h x ds M hp
end
/-- a def that may be called -/
structure Cal (P : Program) (w : World) (K : PySem.W.Frag) (mg : Str → Option Value) (base : Heap) (k : Nat) (x : Str) (sp : Sp) : Prop where
  ex : ∃ (f : Addr) (fd : FuncData) (ps : List Str), FnOk P w K mg base CX0 k f fd ps sp ∧ mg x = some (.ref f) ∧ PySem.W.keepIn K (.ref f) = true ∧ Binds K fd ps []
theorem Cal.mono {P : Program} {w : World} {mg : Str → Option Value} {base : Heap} {j k : Nat} {x : Str} {sp : Sp} (c : Cal P w K mg base j x sp) (h : j ≤ k) : Cal P w K mg base k x sp := by
  obtain ⟨f, fd, ps, F, a, b, d⟩ := c.ex
  exact ⟨f, fd, ps, F.mono h, a, b, d⟩
section
variable {X : Cx} {k j : Nat} {x : Str} {sp : Sp} {p pos : Pos} {e : Expr} {es : List Expr} {t : TA}
theorem pe_c (c : Cal X.prog X.w X.K X.mg X.base k x sp) (hr : Room j X.A) (hk : k ≤ j) (hg : Gl X x) (ha : PA X (e :: es) t)
    (hdb : (x == ("__debug__" : Str)) = false := by decide) (he : starEach (e :: es) X.env = (false, eval e X.env) :: starEach es X.env := by rfl) (hpl : (backTo pos (starEach es X.env)).any (·.1) = false := by rfl) :
    PE X (.Call (.Name x p) (e :: es) [] pos) (tCall sp [] E0 t) := by
  obtain ⟨f, fd, ps, F, hm, kp, b⟩ := c.ex
  exact pe_call F (hr.mono hk) hg hm kp b .nil pass0 ha hdb he hpl
end
section
variable {ρ : Rho} {M : Mm} {Φ : Dt → Mm → Prop} {ta te : TE} {t : TA} {E : XK} {α : Type} {pre : α → List Dt → Mm → Prop} {post : α → Mm → Dt → Mm → Prop}
theorem ex_call (h : AX K t ρ M (fun ds M1 => ∃ x, pre x ds M1 ∧ ∀ d M2, post x M1 d M2 → Φ d M2)) : EX K (tCall (SpD K pre post) [] E t) ρ M Φ := fun B H H1 σ o s Q q =>
  h B H H1 σ o s _ fun vs ds M' H' H2 ⟨x, z⟩ k e r => ⟨x, B, H', M', ds, k, by rw [List.append_nil]; exact r, z.1, fun v d M3 H3 H4 hp k3 e3 r3 => q v d M3 H3 H4 (z.2 d M3 hp) k3 (e.trans e3) r3⟩
/-- a method of an object that stays -/
theorem ex_meth {C : Addr} {m : Str} (h : EX K te ρ M (fun x M1 => ∃ fs, x = .obj C fs ∧ fs.lookup m = none ∧ AX K t ρ M1 (fun ds M2 => ∃ y, pre y (.obj C fs :: ds) M2 ∧ ∀ d M3, post y M2 d M3 → Φ d M3))) :
    EX K (tMeth C m (SpD K pre post) [] E te t) ρ M Φ := fun B H H1 σ o s Q q =>
  h B H H1 σ o s _ fun v d M' H' H2 z k e r => by
    obtain ⟨fs, rfl, hn, z⟩ := z
    obtain ⟨a, dx, gs, rfl, h1, r1⟩ := r.obj_inv
    refine ⟨a, dx, gs, rfl, k.h _ _ h1, r1.lookupN hn, z B H' H2 σ k (s.mono e) _ fun vs ds M2 H3 H4 z2 k2 e2 r2 => ?_⟩
    obtain ⟨y, z2⟩ := z2
    exact ⟨y, B, H3, M2, .obj C fs :: ds, k2, by rw [List.append_nil]; exact .cons (r.mono e2) r2, z2.1, fun v d M3 H5 H6 hp k3 e3 r3 => q v d M3 H5 H6 (z2.2 d M3 hp) k3 ((e.trans e2).trans e3) r3⟩
theorem ex_fld {f : Str} (h : EX K te ρ M (fun x M1 => ∃ C fs d, x = .obj C fs ∧ Cls K C ∧ NoAttr K C f ∧ fs.lookup f = some d ∧ Φ d M1)) : EX K (tFld K te f) ρ M Φ := fun B H H1 σ o s Q q =>
  h B H H1 σ o s _ fun v d M' H' H2 z k e r => by
    obtain ⟨C, fs, d, rfl, c, n, l, z⟩ := z
    obtain ⟨a, dx, gs, rfl, h1, r1⟩ := r.obj_inv
    obtain ⟨v, l2, r2⟩ := r1.lookup l
    exact ⟨a, C, dx, gs, v, rfl, k.h _ _ h1, c, n, l2, q v d M' H' H2 z k e r2⟩
theorem ex_prop {C : Addr} (h : EX K te ρ M (fun x M1 => ∃ fs, x = .obj C fs ∧ ∃ y, pre y [.obj C fs] M1 ∧ ∀ d M2, post y M1 d M2 → Φ d M2)) : EX K (tProp C (SpD K pre post) [] E te) ρ M Φ := fun B H H1 σ o s Q q =>
  h B H H1 σ o s _ fun v d M' H' H2 z k e r => by
    obtain ⟨fs, rfl, y, z1, z2⟩ := z
    obtain ⟨a, dx, gs, rfl, h1, r1⟩ := r.obj_inv
    exact ⟨a, dx, gs, rfl, k.h _ _ h1, y, B, H', M', [.obj C fs], k, .one r, z1, fun v d M3 H5 H6 hp k3 e3 r3 => q v d M3 H5 H6 (z2 d M3 hp) k3 (e.trans e3) r3⟩
end
section
variable {ρ : Rho} {M : Mm} {Φ : Dt → Mm → Prop} {te : TE} {t : TA} {E : XK} {α : Type} {enc : α → List Dt} {ok : α → Prop} {f : α → Dt}
theorem ex_callP (h : AX K t ρ M (fun ds M1 => ∃ x, ds = enc x ∧ ok x ∧ Φ (f x) M1)) : EX K (tCall (SpP K enc ok f) [] E t) ρ M Φ := ex_call (fun B H H1 σ o s Q q => h B H H1 σ o s Q fun vs ds M' H' H2 ⟨x, z1, z2, z3⟩ => q vs ds M' H' H2 ⟨x, ⟨z1, z2⟩, fun d M2 ⟨e1, e2⟩ => by
  rw [e1, e2]
  exact z3⟩)
theorem ex_propP {C : Addr} (h : EX K te ρ M (fun x M1 => ∃ fs, x = .obj C fs ∧ ∃ y, [Dt.obj C fs] = enc y ∧ ok y ∧ Φ (f y) M1)) : EX K (tProp C (SpP K enc ok f) [] E te) ρ M Φ := ex_prop (h.mono fun d M' ⟨fs, e, y, z1, z2, z3⟩ => ⟨fs, e, y, ⟨z1, z2⟩, fun d M2 ⟨e1, e2⟩ => by
  rw [e1, e2]
  exact z3⟩)
theorem ex_methP {C : Addr} {m : Str} (h : EX K te ρ M (fun x M1 => ∃ fs, x = .obj C fs ∧ fs.lookup m = none ∧ AX K t ρ M1 (fun ds M2 => ∃ y, Dt.obj C fs :: ds = enc y ∧ ok y ∧ Φ (f y) M2))) :
    EX K (tMeth C m (SpP K enc ok f) [] E te t) ρ M Φ := ex_meth (h.mono fun d M' ⟨fs, e, n, z⟩ => ⟨fs, e, n, fun B H H1 σ o s Q q => z B H H1 σ o s Q fun vs ds M2 H' H2 ⟨x, z1, z2, z3⟩ => q vs ds M2 H' H2 ⟨x, ⟨z1, z2⟩, fun d M3 ⟨e1, e2⟩ => by
  rw [e1, e2]
  exact z3⟩⟩)
theorem ret_pure {y : Dt} {d : Dt} {M M' : Mm} (h : d = y) (s : Sub M M') : (retE fun d M' => d = y ∧ M' = M).rt d M' := ⟨M, s, h, rfl⟩
end
end
end Wk
namespace Wk
open PySem L2 Evl
theorem bits_le {i : Int} {n : Nat} (h : i.natAbs < 2 ^ n) (hn : 0 < n) : Builtin.Int.intBits i ≤ n := by
  have x := PySem.Flt.log2_lt_of hn h
  unfold Builtin.Int.intBits
  split <;> omega
theorem cpow_of {i j : Int} {n : Nat} (hj : 0 ≤ j) (h : i.natAbs < 2 ^ n) (hn : 0 < n) (hz : (n : Int) * j ≤ 2 ^ 27) : CPowW i j := by
  refine ⟨hj, ?_⟩
  have b := bits_le h hn
  have e : ((Builtin.Int.intBits i : Nat) : Int) ≤ (n : Int) := by exact_mod_cast b
  exact Int.le_trans (Int.mul_le_mul_of_nonneg_right e hj) hz
theorem abs_lt {i : Int} {n : Nat} (h1 : -(2 ^ n : Int) < i) (h2 : i < 2 ^ n) : i.natAbs < 2 ^ n := by
  have e : ((2 ^ n : Nat) : Int) = (2 : Int) ^ n := by push_cast; rfl
  omega
theorem cdiv_of {i j : Int} {n : Nat} (h : 0 < j) (hb : j.natAbs < 2 ^ n) (h0 : 0 < n) (h9 : n ≤ 9000) : CDivW i j := wide_div h hb h0 h9
theorem cmul_l {i j : Int} (h1 : -(2 ^ 64) < i) (h2 : i < 2 ^ 64) : CMulW i j ∨ CMul i j := .inr (.inl ⟨h1, h2⟩)
theorem cmul_r {i j : Int} (h1 : -(2 ^ 64) < j) (h2 : j < 2 ^ 64) : CMulW i j ∨ CMul i j := .inr (.inr ⟨h1, h2⟩)
section
variable {K : PySem.W.Frag} {ρ : Rho} {M : Mm} {Φ : Dt → Mm → Prop} {ta te to : TE} {t : TA}
theorem ux_neg {i : Int} (k : Φ (.int (-i)) M) : UX K (rU fun i => .int (-i)) (.int i) M Φ := fun B H H1 vx o rx Q q => ⟨i, rx.int_inv, q _ _ M H H1 k o (Ex.refl H) (.int _)⟩
theorem cx_max2 {i j : Int} (k : Φ (.int (if j > i then j else i)) M) : CX K (fun xs H Q => ∃ i j, xs = [.int i, .int j] ∧ Q (.int (if j > i then j else i)) H) [.int i, .int j] M Φ := fun B H H1 vs o r Q q => by
  cases r with
  | cons r rr =>
    cases rr with
    | cons r2 rr =>
      cases rr
      exact ⟨i, j, by rw [r.int_inv, r2.int_inv], q _ _ M H H1 k o (Ex.refl H) (.int _)⟩
theorem cx_str {i : Int} (h : i.natAbs.log2 < 1920) (k : Φ (.str (toString i)) M) : CX K (fun xs H Q => ∃ i, xs = [.int i] ∧ i.natAbs.log2 < 1920 ∧ Q (.str (toString i)) H) [.int i] M Φ := cx_one (fun H vx Q rx q => ⟨i, by rw [rx.int_inv], h, q⟩) (fun _ => .str _) k
theorem cx_int {a : Str} {n : Int} (h : PySem.intText? a = some n) (hl : a.length ≤ 640) (k : Φ (.int n) M) : CX K (fun xs H Q => ∃ a n, xs = [.str a] ∧ PySem.intText? a = some n ∧ a.length ≤ 640 ∧ Q (.int n) H) [.str a] M Φ := cx_one (fun H vx Q rx q => ⟨a, n, by rw [rx.str_inv], h, hl, q⟩) (fun _ => .int _) k
theorem lst_src {M : Mm} {d : Dt} {xs : List Dt} {G : Mm → Prop} (hs : WSrc M d xs G) {B H H1 : Hp} {v : V} (o : Ok K B H H1 M) (r : Rp K H v d) : ∃ a us, v = .ref a ∧ (SqL K H1 a us ∨ SqT K H1 a us) ∧ RpAll K H us xs := by
  rcases hs with ⟨rfl | rfl | rfl, rfl⟩ | ⟨a, rfl, hm, rfl⟩
  · obtain ⟨a, us, rfl, h1, r1⟩ := r.lst_inv
    exact ⟨a, us, rfl, .inl (sq_of (o.h _ _ h1)), r1⟩
  · obtain ⟨a, us, rfl, h1, r1⟩ := r.frl_inv
    exact ⟨a, us, rfl, .inl (ex_l o.h h1), r1⟩
  · obtain ⟨a, us, rfl, h1, r1⟩ := r.tup_inv
    exact ⟨a, us, rfl, .inr (ex_t o.h h1), r1⟩
  · obtain ⟨m1, m2, us, h1, r1⟩ := o.m a _ hm
    exact ⟨a, us, r.raw_inv, .inl (sq_of h1), r1⟩
/-- list(..), as data | as a list that may change -/
theorem cx_list {d : Dt} {xs : List Dt} {G : Mm → Prop} (hs : WSrc M d xs G) (k : Φ (.lst xs) M) : CX K (fun xs H Q => ∃ p ys, xs = [.ref p] ∧ (SqL K H p ys ∨ SqT K H p ys) ∧ ∀ l, H l = none → Q (.ref l) (upd H l (.lst ys))) [d] M Φ := fun B H H1 vs o r Q q => by
  cases r with
  | cons r rr =>
    cases rr
    obtain ⟨a, us, rfl, h1, r1⟩ := lst_src hs o r
    refine ⟨a, us, rfl, h1, fun p hp => ?_⟩
    have e := Ex.new (o := .lst us) (fresh_back o.h hp)
    exact q _ _ M _ _ k (o.grow hp) e (.lst upd_same (r1.mono e))
theorem cx_listC {d : Dt} {xs : List Dt} {G : Mm → Prop} (hs : WSrc M d xs G) (k : ∀ a, M a = none → Φ (.raw (.ref a)) (put M a (.lst xs))) : CX K (fun xs H Q => ∃ p ys, xs = [.ref p] ∧ (SqL K H p ys ∨ SqT K H p ys) ∧ ∀ l, H l = none → Q (.ref l) (upd H l (.lst ys))) [d] M Φ := fun B H H1 vs o r Q q => by
  cases r with
  | cons r rr =>
    cases rr
    obtain ⟨a, us, rfl, h1, r1⟩ := lst_src hs o r
    exact ⟨a, us, rfl, h1, fun p hp => q _ _ _ _ _ (k p (o.noMem hp)) (o.cell hp ⟨us, upd_same, r1⟩) (Ex.refl H) (.raw _)⟩
theorem cx_tuple {d : Dt} {xs : List Dt} {G : Mm → Prop} (hs : WSrc M d xs G) (k : Φ (.tup xs) M) : CX K (fun xs H Q => ∃ p ys, xs = [.ref p] ∧ ((SqL K H p ys ∧ ∀ l, H l = none → Q (.ref l) (upd H l (.tup ys))) ∨ (SqT K H p ys ∧ Q (.ref p) H))) [d] M Φ := fun B H H1 vs o r Q q => by
  cases r with
  | cons r rr =>
    cases rr
    have grow : ∀ {a us}, SqL K H1 a us → RpAll K H us xs → ∃ p ys, [V.ref a] = [.ref p] ∧ ((SqL K H1 p ys ∧ ∀ l, H1 l = none → Q (.ref l) (upd H1 l (.tup ys))) ∨ (SqT K H1 p ys ∧ Q (.ref p) H1)) := fun {a us} h1 r1 => by
      refine ⟨a, us, rfl, .inl ⟨h1, fun p hp => ?_⟩⟩
      have e := Ex.new (o := .tup us) (fresh_back o.h hp)
      exact q _ _ M _ _ k (o.grow hp) e (.tup (st_of upd_same) (r1.mono e))
    rcases hs with ⟨rfl | rfl | rfl, rfl⟩ | ⟨a, rfl, hm, rfl⟩
    · obtain ⟨a, us, rfl, h1, r1⟩ := r.lst_inv
      exact grow (sq_of (o.h _ _ h1)) r1
    · obtain ⟨a, us, rfl, h1, r1⟩ := r.frl_inv
      exact grow (ex_l o.h h1) r1
    · obtain ⟨a, us, rfl, h1, r1⟩ := r.tup_inv
      exact ⟨a, us, rfl, .inr ⟨ex_t o.h h1, q _ _ M H H1 k o (Ex.refl H) (.tup h1 r1)⟩⟩
    · obtain ⟨m1, m2, us, h1, r1⟩ := o.m a _ hm
      have q2 := grow (sq_of h1) r1
      rw [r.raw_inv]
      exact q2
theorem cx_list_lst {xs : List Dt} (k : Φ (.lst xs) M) : CX K (fun xs H Q => ∃ p ys, xs = [.ref p] ∧ (SqL K H p ys ∨ SqT K H p ys) ∧ ∀ l, H l = none → Q (.ref l) (upd H l (.lst ys))) [.lst xs] M Φ := cx_list (.inl ⟨.inl rfl, rfl⟩) k
theorem cx_tuple_lst {xs : List Dt} (k : Φ (.tup xs) M) : CX K (fun xs H Q => ∃ p ys, xs = [.ref p] ∧ ((SqL K H p ys ∧ ∀ l, H l = none → Q (.ref l) (upd H l (.tup ys))) ∨ (SqT K H p ys ∧ Q (.ref p) H))) [.lst xs] M Φ := cx_tuple (.inl ⟨.inl rfl, rfl⟩) k
theorem cx_tuple_tup {xs : List Dt} (k : Φ (.tup xs) M) : CX K (fun xs H Q => ∃ p ys, xs = [.ref p] ∧ ((SqL K H p ys ∧ ∀ l, H l = none → Q (.ref l) (upd H l (.tup ys))) ∨ (SqT K H p ys ∧ Q (.ref p) H))) [.tup xs] M Φ := cx_tuple (.inl ⟨.inr (.inr rfl), rfl⟩) k
theorem cx_sum {d : Dt} {ns : List Int} (hd : d = .lst (ns.map Dt.int) ∨ d = .frl (ns.map Dt.int)) (k : Φ (.int ns.sum) M) : CX K (rSum K) [d] M Φ := fun B H H1 vs o r Q q => by
  cases r with
  | cons r rr =>
    cases rr
    rcases hd with rfl | rfl
    · obtain ⟨a, us, rfl, h1, r1⟩ := r.lst_inv
      have e := r1.ints
      subst e
      exact ⟨a, ns, rfl, sq_of (o.h _ _ h1), q _ _ M H H1 k o (Ex.refl H) (.int _)⟩
    · obtain ⟨a, us, rfl, h1, r1⟩ := r.frl_inv
      have e := r1.ints
      subst e
      exact ⟨a, ns, rfl, ex_l o.h h1, q _ _ M H H1 k o (Ex.refl H) (.int _)⟩
theorem ex_append {a : Addr} (h : EX K to ρ M (fun x M1 => x = .raw (.ref a) ∧ ∃ xs0, M1 a = some (.lst xs0) ∧ AX K t ρ M1 (fun ds M2 => ∃ d xs, ds = [d] ∧ M2 a = some (.lst xs) ∧ xs.length < sizeLine ∧ Φ .non (put M2 a (.lst (xs ++ [d])))))) : EX K (tBM K "list" rAppend to t) ρ M Φ := fun B H H1 σ o s Q q =>
  h B H H1 σ o s _ fun v x M1 H2 H3 z k e r => by
    obtain ⟨rfl, xs0, hm0, z⟩ := z
    obtain rfl := r.raw_inv
    obtain ⟨_, _, us0, h0, r0⟩ := k.m a _ hm0
    refine ⟨Or.inl ⟨rfl, us0, sq_of h0⟩, z B H2 H3 σ k (s.mono e) _ fun vs ds M2 H4 H5 z2 k2 e2 r2 => ?_⟩
    obtain ⟨d, xs, rfl, hm, hl, z2⟩ := z2
    cases r2 with
    | cons r2 rr =>
      cases rr
      obtain ⟨_, _, us, h1, r1⟩ := k2.m a _ hm
      exact ⟨a, us, _, rfl, rfl, h1, by rw [r1.length]; exact hl, q _ _ _ H4 _ z2 (k2.write hm ⟨_, upd_same, r1.append (.one r2)⟩) (e.trans e2) .non⟩
theorem ex_popAt {a : Addr} (h : EX K to ρ M (fun x M1 => x = .raw (.ref a) ∧ ∃ xs0, M1 a = some (.lst xs0) ∧ AX K t ρ M1 (fun ds M2 => ∃ xs i k y, ds = [.int i] ∧ M2 a = some (.lst xs) ∧ -(2 ^ 63) ≤ i ∧ i < 2 ^ 63 ∧ seqIndex? i xs.length = some k ∧ xs[k]? = some y ∧ Φ y (put M2 a (.lst (xs.eraseIdx k)))))) : EX K (tBM K "list" rPopAt to t) ρ M Φ := fun B H H1 σ o s Q q =>
  h B H H1 σ o s _ fun v x M1 H2 H3 z k e r => by
    obtain ⟨rfl, xs0, hm0, z⟩ := z
    obtain rfl := r.raw_inv
    obtain ⟨_, _, us0, h0, r0⟩ := k.m a _ hm0
    refine ⟨Or.inl ⟨rfl, us0, sq_of h0⟩, z B H2 H3 σ k (s.mono e) _ fun vs ds M2 H4 H5 z2 k2 e2 r2 => ?_⟩
    obtain ⟨xs, i, j, y, rfl, hm, l1, l2, hj, hy, z2⟩ := z2
    cases r2 with
    | cons r2 rr =>
      cases rr
      obtain ⟨_, _, us, h1, r1⟩ := k2.m a _ hm
      obtain ⟨v, hv, rv⟩ := r1.get hy
      have er : RpAll K H4 (us.eraseIdx j) (xs.eraseIdx j) := by
        rw [List.eraseIdx_eq_take_drop_succ, List.eraseIdx_eq_take_drop_succ]
        exact (r1.take _).append (r1.drop _)
      exact ⟨a, us, i, j, v, rfl, by rw [r2.int_inv], h1, l1, l2, by rw [r1.length]; exact hj, hv, q _ _ _ H4 _ z2 (k2.write hm ⟨_, upd_same, er⟩) (e.trans e2) rv⟩
theorem ex_m1 {r : V → List V → Hp → VK → Prop} (h : EX K to ρ M (fun x M1 => (∃ a, x = .str a) ∧ EX K te ρ M1 (fun y M2 => MX K r x [y] M2 Φ))) : EX K (tM1 r to te) ρ M Φ := fun B H H1 σ o s Q q =>
  h B H H1 σ o s _ fun v x M1 H2 H3 z k e rx => ⟨by obtain ⟨a, rfl⟩ := z.1; exact ⟨a, rx.str_inv⟩, z.2 B H2 H3 σ k (s.mono e) _ fun v2 y M2 H4 H5 z2 k2 e2 r2 => z2 B H4 H5 v [v2] k2 (rx.mono e2) (.one r2) Q fun v3 d3 M3 H6 H7 z3 k3 e3 r3 => q v3 d3 M3 H6 H7 z3 k3 ((e.trans e2).trans e3) r3⟩
theorem ex_m0 {r : V → List V → Hp → VK → Prop} (h : EX K to ρ M (fun x M1 => (∃ a, x = .str a) ∧ MX K r x [] M1 Φ)) : EX K (tM0 r to) ρ M Φ := fun B H H1 σ o s Q q =>
  h B H H1 σ o s _ fun v x M1 H2 H3 z k e rx => ⟨by obtain ⟨a, rfl⟩ := z.1; exact ⟨a, rx.str_inv⟩, z.2 B H2 H3 v [] k rx .nil Q fun v3 d3 M3 H6 H7 z3 k3 e3 r3 => q v3 d3 M3 H6 H7 z3 k3 (e.trans e3) r3⟩
theorem mx_split {a b : Str} (hb : (b.length == 0) = false) (hl : a.length + 2 ≤ sizeLine) (k : Φ (.lst ((Txt.split a b).map Dt.str)) M) : MX K (fun x xs H Q => ∃ a b, x = .str a ∧ xs = [.str b] ∧ (b.length == 0) = false ∧ a.length + 2 ≤ sizeLine ∧ rNewStrs (Txt.split a b) H Q) (.str a) [.str b] M Φ := fun B H H1 vx vs o rx r Q q => by
  cases r with
  | cons r rr =>
    cases rr
    refine ⟨a, b, rx.str_inv, by rw [r.str_inv], hb, hl, fun p hp => ?_⟩
    have e := Ex.new (o := .lst ((Txt.split a b).map V.str)) (fresh_back o.h hp)
    exact q _ _ M _ _ k (o.grow hp) e (.lst upd_same RpAll.ofStrs)
theorem mx_join {a : Str} {d : Dt} {G : Mm → Prop} {ys : List Str} (hs : WSrc M d (ys.map Dt.str) G) (hl : (ys.map (·.length)).sum + ys.length * a.length ≤ 16777216) (k : Φ (.str (Txt.join a ys)) M) : MX K (fun x xs H Q => ∃ a p, ∃ ys : List Str, x = .str a ∧ xs = [.ref p] ∧ (SqL K H p (ys.map V.str) ∨ SqT K H p (ys.map V.str)) ∧ (ys.map (·.length)).sum + ys.length * a.length ≤ 16777216 ∧ Q (.str (Txt.join a ys)) H) (.str a) [d] M Φ := fun B H H1 vx vs o rx r Q q => by
  cases r with
  | cons r rr =>
    cases rr
    obtain ⟨p, us, rfl, h1, r1⟩ := lst_src hs o r
    have e := r1.strs
    subst e
    exact ⟨a, p, ys, rx.str_inv, rfl, h1, hl, q _ _ M H H1 k o (Ex.refl H) (.str _)⟩
theorem mx_isdigit {a : Str} (k : Φ (.bl (Txt.isdigit a)) M) : MX K (fun x xs H Q => ∃ a, x = .str a ∧ xs = [] ∧ True ∧ Q (.bl (Txt.isdigit a)) H) (.str a) [] M Φ := fun B H H1 vx vs o rx r Q q => by
  cases r
  exact ⟨a, rx.str_inv, rfl, trivial, q _ _ M H H1 k o (Ex.refl H) (.bl _)⟩
theorem mx_startswith {a b : Str} (k : Φ (.bl (Txt.startswith a b)) M) : MX K (fun x xs H Q => ∃ a b, x = .str a ∧ xs = [.str b] ∧ Q (.bl (Txt.startswith a b)) H) (.str a) [.str b] M Φ := fun B H H1 vx vs o rx r Q q => by
  cases r with
  | cons r rr =>
    cases rr
    exact ⟨a, b, rx.str_inv, by rw [r.str_inv], q _ _ M H H1 k o (Ex.refl H) (.bl _)⟩
def inI (i : Int) (ns : List Int) : Bool := ns.any fun n => n == i
theorem flat_ints (ns : List Int) : (ns.map V.int).all flatV = true := by
  rw [List.all_eq_true]
  intro x hx
  obtain ⟨n, _, rfl⟩ := List.mem_map.mp hx
  rfl
theorem inV_ints (i : Int) (ns : List Int) : inV (.int i) (ns.map V.int) = inI i ns := by
  unfold inV inI
  rw [List.any_map]
  rfl
theorem rx_in_ints {i : Int} {d : Dt} {ns : List Int} {G : Mm → Prop} (hs : WSrc M d (ns.map Dt.int) G) (k : Φ (.bl (inI i ns)) M) : RX K (rIn K false) (.int i) d M Φ := fun B H H1 vx vy o rx ry Q q => by
  obtain ⟨a, us, rfl, h1, r1⟩ := lst_src hs o ry
  have e := r1.ints
  subst e
  refine ⟨a, _, rfl, h1, by rw [rx.int_inv]; rfl, flat_ints ns, ?_⟩
  rw [rx.int_inv, inV_ints]
  exact q _ _ M H H1 k o (Ex.refl H) (.bl _)
end
section
variable {K : PySem.W.Frag} {ρ : Rho} {M : Mm} {ts us : TS} {E : Es} {te : TE} {Φ Ψ : Dt → Mm → Prop}
theorem sx_seqc (Mid : Rho → Mm → Prop) (h1 : SX K ts ρ M { E with nx := Mid }) (h2 : ∀ ρ' M', Mid ρ' M' → SX K us ρ' M' E) : SX K (tSeq ts us) ρ M E := sx_seq fun B H H1 σ D o s r => h1 B H H1 σ D o s ⟨fun ρ' M' σ' H' H2 z k s' e => r.nx ρ' M' σ' H' H2 (h2 ρ' M' z) k s' e, r.rt, r.bk, r.ct⟩
theorem ex_cut (Ψ : Dt → Mm → Prop) (h : EX K te ρ M Ψ) (k : ∀ d M', Ψ d M' → Φ d M') : EX K te ρ M Φ := h.mono k
end
theorem dT {p : Prop} [Decidable p] (h : decide p = true) : p := of_decide_eq_true h
theorem dF {p : Prop} [Decidable p] (h : decide p = false) : ¬ p := of_decide_eq_false h
def IsSrc (n : Int) (c : Cell) : Prop := ∃ x y z : Int, c = .lst [.int x, .int y, .int z] ∧ 0 ≤ x ∧ 0 ≤ y ∧ y < 2 ^ 200 ∧ 0 ≤ z ∧ z ≤ n
theorem IsSrc.mono {m n : Int} {c : Cell} (h : IsSrc m c) (e : m ≤ n) : IsSrc n c := by
  obtain ⟨x, y, z, a, b1, b2, b3, b4, b5⟩ := h
  exact ⟨x, y, z, a, b1, b2, b3, b4, by omega⟩
theorem ixN_nat {n j : Nat} (hj : j < n) : ixN n (j : Int) = some j := Evl.ixN_nat hj
theorem atI_at {α : Type} {xs : List α} {j : Nat} {v : α} (h : xs[j]? = some v) : atI xs (j : Int) = some v := by
  have hj := (List.getElem?_eq_some_iff.mp h).1
  unfold atI
  rw [Evl.ixN_nat hj]
  exact h
theorem atI_last {α : Type} {xs : List α} {v : α} (h : xs[xs.length - 1]? = some v) (hn : xs ≠ []) : atI xs (-1) = some v := by
  have hl : 0 < xs.length := List.length_pos_iff.mpr hn
  unfold atI ixN
  rw [if_neg (by decide), if_pos (by omega)]
  have e : ((-1 : Int) + (xs.length : Int)).toNat = xs.length - 1 := by omega
  rw [e]
  exact h
end Wk
namespace Wk
open PySem L2 Evl
abbrev Pt := Int × Int
abbrev P2 (p : Pt) : Dt := .tup [.int p.1, .int p.2]
abbrev Pts (ps : List Pt) : Dt := .tup (ps.map P2)
abbrev Lps (ps : List Pt) : Dt := .lst (ps.map P2)
/-- all coordinates within B -/
def Bd (B : Int) (ps : List Pt) : Prop := ∀ p ∈ ps, -B ≤ p.1 ∧ p.1 ≤ B ∧ -B ≤ p.2 ∧ p.2 ≤ B
theorem Bd.mono {B C : Int} {ps : List Pt} (h : Bd B ps) (e : B ≤ C) : Bd C ps := fun p hp => by
  have q := h p hp
  omega
abbrev wI (i : Int) : Str := Str.ofString (toString i)
theorem tl_wI_nn (n : Nat) : TL.tl (wI (n : Int)) = TL.numL n := TL.tl_num n
theorem tl_wI_neg (n : Nat) : TL.tl (wI (Int.negSucc n)) = 45 :: TL.numL (n + 1) := by
  have e : toString (Int.negSucc n) = "-" ++ toString (n + 1) := rfl
  have q := TL.tl_num (n + 1)
  rw [TL.tl_ofString] at q ⊢
  rw [e, String.toList_append, List.map_append]
  have e2 : toString ((((n + 1 : Nat)) : Int)) = toString (n + 1) := rfl
  rw [e2] at q
  rw [q]
  rfl
theorem wI_cases (i : Int) : (∃ n : Nat, i = (n : Int) ∧ TL.tl (wI i) = TL.numL n) ∨ (∃ n : Nat, i = -((n + 1 : Nat) : Int) ∧ TL.tl (wI i) = 45 :: TL.numL (n + 1)) := by
  cases i with
  | ofNat n => exact .inl ⟨n, rfl, tl_wI_nn n⟩
  | negSucc n => exact .inr ⟨n, rfl, tl_wI_neg n⟩
theorem wI_free {i : Int} {c : Nat} (h : c < 45 ∨ c = 46 ∨ c = 47 ∨ 57 < c) : c ∉ TL.tl (wI i) := by
  rcases wI_cases i with ⟨n, _, e⟩ | ⟨n, _, e⟩
  · rw [e]
    exact TL.numL_free (by omega)
  · rw [e]
    intro hc
    rcases List.mem_cons.mp hc with z | z
    · omega
    · exact TL.numL_free (by omega) z
theorem wI_len {i : Int} (h : i.natAbs < 2 ^ 1000) : (wI i).length ≤ 303 := by
  have b : (2 : Nat) ^ 200 < 10 ^ 302 := by decide
  rw [TL.len_tl]
  rcases wI_cases i with ⟨n, en, e⟩ | ⟨n, en, e⟩
  · rw [e]
    have q := TL.numL_len (n := n) (k := 302) (by decide) (by omega)
    omega
  · rw [e, List.length_cons]
    have q := TL.numL_len (n := n + 1) (k := 302) (by decide) (by omega)
    omega
theorem wI_int {i : Int} (h : i.natAbs < 2 ^ 1000) : intText? (wI i) = some i := by
  have hl := wI_len h
  rcases wI_cases i with ⟨n, en, e⟩ | ⟨n, en, e⟩
  · subst en
    refine TL.int_num ?_
    rw [← e, ← TL.len_tl]
    omega
  · have q := intText_neg (x := wI i) e (TL.numL_digits (n + 1)) (TL.numL_ne (n + 1)) (by omega)
    rw [TL.numL_val] at q
    rw [q, en]
theorem log_lt {i : Int} (h : i.natAbs < 2 ^ 1000) : i.natAbs.log2 < 1920 := Nat.lt_of_lt_of_le (PySem.Flt.log2_lt_of (by decide) h) (by decide)
abbrev s0 : Str := "0"
abbrev sMinus : Str := "-"
abbrev sMinus0 : Str := "-0"
abbrev sComma : Str := ","
abbrev sBlank : Str := " "
def headS (w : Str) : Str := ⟨#[(TL.tl w).headD 0]⟩
def countF (w : Str) : Bool := decide (w = s0) || (Txt.isdigit w && !decide (headS w = s0))
def numF (w : Str) : Bool := countF w || (Txt.startswith w sMinus && (!decide (w = sMinus0) && countF (cutS w (some 1) none)))
theorem tl_s0 : TL.tl s0 = [48] := by decide +kernel
theorem tl_sMinus : TL.tl sMinus = [45] := by decide +kernel
theorem tl_sMinus0 : TL.tl sMinus0 = [45, 48] := by decide +kernel
theorem tl_sComma : TL.tl sComma = [44] := by decide +kernel
theorem tl_sBlank : TL.tl sBlank = [32] := by decide +kernel
theorem isdigit_of {w : Str} (h1 : TL.tl w ≠ []) (h : NumText.AllDigits (TL.tl w)) : Txt.isdigit w = true := by
  unfold Txt.isdigit
  rw [Bool.and_eq_true]
  refine ⟨decide_eq_true ?_, ?_⟩
  · rw [TL.len_tl]
    exact List.length_pos_iff.mpr h1
  · rw [← Array.all_toList, List.all_eq_true]
    intro c hc
    have q := h c hc
    have k : ∀ c, 48 ≤ c → c ≤ 57 → Unicode.isDigit c = true := by
      intro c h1 h2
      have e : c = 48 ∨ c = 49 ∨ c = 50 ∨ c = 51 ∨ c = 52 ∨ c = 53 ∨ c = 54 ∨ c = 55 ∨ c = 56 ∨ c = 57 := by omega
      rcases e with e | e | e | e | e | e | e | e | e | e <;> (rw [e]; decide +kernel)
    exact k c q.1 q.2
/-- no zero ahead -/
theorem numL_head : ∀ n : Nat, 0 < n → ∃ c r, TL.numL n = c :: r ∧ c ≠ 48 := by
  intro n
  induction n using Nat.strongRecOn with
  | _ n ih =>
    intro h0
    by_cases h : n < 10
    · exact ⟨48 + n, [], TL.numL_lt h, by omega⟩
    · obtain ⟨c, r, e, hc⟩ := ih (n / 10) (by omega) (by omega)
      exact ⟨c, r ++ [48 + n % 10], by rw [TL.numL_step (by omega), e] <;> rfl, hc⟩
theorem count_num {w : Str} {n : Nat} (e : TL.tl w = TL.numL n) : countF w = true := by
  unfold countF
  by_cases h0 : n = 0
  · subst h0
    have e2 : w = s0 := TL.ext_tl (by rw [e, tl_s0]; exact TL.numL_lt (by decide))
    rw [decide_eq_true e2, Bool.true_or]
  · obtain ⟨c, r, e1, hc⟩ := numL_head n (by omega)
    have d := isdigit_of (w := w) (by rw [e]; exact TL.numL_ne n) (by rw [e]; exact TL.numL_digits n)
    have hh : headS w ≠ s0 := fun z => by
      have q : TL.tl (headS w) = TL.tl s0 := by rw [z]
      rw [tl_s0] at q
      unfold headS at q
      rw [e, e1] at q
      exact hc (List.cons.inj q).1
    rw [d, decide_eq_false hh, Bool.not_false, Bool.and_self, Bool.or_true]
theorem cut1_tl (w : Str) : TL.tl (cutS w (some 1) none) = (TL.tl w).drop 1 := by
  have h1 : HT.sIx w.length 0 (some 1) = min 1 w.length := by
    unfold HT.sIx
    simp
  have h2 : HT.sIx w.length w.length none = w.length := rfl
  unfold cutS
  show (((w.cps.toList.drop (HT.sIx w.length 0 (some 1))).take (HT.sIx w.length w.length none - HT.sIx w.length 0 (some 1))).toArray).toList = _
  rw [h1, h2]
  have hl : w.cps.toList.length = w.length := (TL.len_tl w).symm
  show (w.cps.toList.drop (min 1 w.length)).take (w.length - min 1 w.length) = (TL.tl w).drop 1
  by_cases hw : w.length = 0
  · have e : w.cps.toList = [] := List.length_eq_zero_iff.mp (by rw [hl, hw])
    rw [e]
    simp [TL.tl, e]
  · have hm : min 1 w.length = 1 := by omega
    rw [hm]
    refine List.take_of_length_le ?_
    rw [List.length_drop, hl]
    omega
theorem starts_minus {w : Str} {r : List Nat} (e : TL.tl w = 45 :: r) : Txt.startswith w sMinus = true := by
  have hl : w.length = r.length + 1 := by rw [TL.len_tl, e, List.length_cons]
  have hm : sMinus.length = 1 := rfl
  unfold Txt.startswith
  rw [Bool.and_eq_true]
  refine ⟨decide_eq_true (by rw [hl, hm]; omega), ?_⟩
  unfold Builtin.Str.subAt
  rw [beq_iff_eq]
  apply Array.toList_inj.mp
  have q : (w.cps.extract 0 (0 + sMinus.length)).toList = (TL.tl w).take 1 := by
    rw [hm]
    simp [TL.tl]
  rw [q, e]
  exact tl_sMinus.symm
theorem num_wI (i : Int) : numF (wI i) = true := by
  unfold numF
  rcases wI_cases i with ⟨n, _, e⟩ | ⟨n, _, e⟩
  · rw [count_num e, Bool.true_or]
  · have h1 := starts_minus e
    have h2 : wI i ≠ sMinus0 := fun z => by
      rw [z, tl_sMinus0] at e
      have q := (List.cons.inj e).2
      have q2 := TL.numL_val (n + 1)
      rw [← q] at q2
      have q3 : NumText.digitsVal [48] = 0 := by decide
      omega
    have h3 : countF (cutS (wI i) (some 1) none) = true := count_num (n := n + 1) (by rw [cut1_tl, e] <;> rfl)
    rw [h1, h3, decide_eq_false h2] <;> simp
def wP (p : Pt) : Str := wI p.1 ++ sComma ++ wI p.2
def wPs (ps : List Pt) : Str := Txt.join sBlank (ps.map wP)
theorem wP_tl (p : Pt) : TL.tl (wP p) = TL.tl (wI p.1) ++ (44 :: TL.tl (wI p.2)) := by
  unfold wP
  rw [TL.tl_append, TL.tl_append, tl_sComma, List.append_assoc] <;> rfl
theorem wP_join (p : Pt) : wP p = Txt.join sComma [wI p.1, wI p.2] := by
  rw [TL.join_eq] <;> rfl
theorem split_wP (p : Pt) : Txt.split (wP p) sComma = [wI p.1, wI p.2] := by
  rw [wP_join]
  refine TL.split_join (s := 44) (S := []) tl_sComma (by decide +kernel) (by simp) fun w hw => ?_
  rcases List.mem_cons.mp hw with e | hw
  · rw [e]
    exact wI_free (by omega)
  · rw [List.mem_singleton.mp hw]
    exact wI_free (by omega)
theorem wP_free (p : Pt) : 32 ∉ TL.tl (wP p) := by
  rw [wP_tl]
  intro h
  rcases List.mem_append.mp h with h | h
  · exact wI_free (by omega) h
  · rcases List.mem_cons.mp h with h | h
    · omega
    · exact wI_free (by omega) h
theorem split_wPs {ps : List Pt} (h : ps ≠ []) : Txt.split (wPs ps) sBlank = ps.map wP := by
  refine TL.split_join (s := 32) (S := []) tl_sBlank (by decide +kernel) (fun e => h (List.map_eq_nil_iff.mp e)) fun w hw => ?_
  obtain ⟨p, _, rfl⟩ := List.mem_map.mp hw
  exact wP_free p
/-- coordinates that may be written and read -/
def Small (ps : List Pt) : Prop := ∀ p ∈ ps, p.1.natAbs < 2 ^ 1000 ∧ p.2.natAbs < 2 ^ 1000
theorem Small.of {B : Int} {ps : List Pt} (h : Bd B ps) (hB : B < 2 ^ 990) : Small ps := fun p hp => by
  have q := h p hp
  have e : (2 : Int) ^ 190 < 2 ^ 1000 := by decide
  exact ⟨abs_lt (by omega) (by omega), abs_lt (by omega) (by omega)⟩
theorem wP_len {p : Pt} (h : p.1.natAbs < 2 ^ 1000 ∧ p.2.natAbs < 2 ^ 1000) : (wP p).length ≤ 607 := by
  have h1 := wI_len h.1
  have h2 := wI_len h.2
  rw [TL.len_tl] at h1 h2
  rw [TL.len_tl, wP_tl, List.length_append, List.length_cons]
  omega
theorem sum_len {ps : List Pt} (h : Small ps) : ((ps.map wP).map (·.length)).sum ≤ 607 * ps.length := by
  induction ps with
  | nil => exact Nat.zero_le _
  | cons p ps ih =>
    have h1 := wP_len (h p List.mem_cons_self)
    have h2 := ih fun q hq => h q (List.mem_cons_of_mem _ hq)
    rw [List.map_cons, List.map_cons, List.sum_cons, List.length_cons]
    omega
theorem wPs_len {ps : List Pt} (h : Small ps) : (wPs ps).length ≤ 608 * ps.length := by
  have q := StrLaws.join_length_le sBlank (ps.map wP)
  have h2 := sum_len h
  unfold wPs
  rw [TL.join_eq]
  have e : sBlank.length = 1 := rfl
  rw [e, List.length_map] at q
  omega
end Wk
namespace Wk
open PySem PySem.Spec PyProof.Rows L2
open Sem (wp)
open AutoSeq1 (wpAny_loadPart')
theorem meets_enumerate_newT (l : Addr) (items : Array Value) (n : Nat) (dct : Option Addr) (sl : Array (Option Value)) :
    Meets (Builtin.«enumerate.__new__» ⟨[.type "enumerate", .ref l], []⟩) (fun _ R s => s.heap.get? l = some { cls := .type "tuple", dict := dct, data := .seq items n, slots := sl } ∧
      R (.ok (.ret (.ref (s.heap.push { cls := .type "tuple_iterator", data := .fields #[.ref l, .int 0 0] }).objs.size)))
        { s with heap := (s.heap.push { cls := .type "tuple_iterator", data := .fields #[.ref l, .int 0 0] }).push { cls := .type "enumerate", data := .fields #[.none, .bool false, .ref s.heap.objs.size, rawInt 0, .none, .none] } }) :=
  .of_wp fun prog w A R s h => by
    obtain ⟨hp, g, d, tk, os⟩ := s; obtain ⟨hl, h⟩ := h
    have hsub := sub_enumerate
    have hL : Heap.IsTuple (Shared.heap ⟨hp, g, d, tk, os⟩) l items := ⟨_, hl, rfl, n, rfl⟩
    wp_walk using wpAny_loadPart' hl
    refine wpAny_stack_any fun st => wpAny_pure ?_
    split
    · rename_i c _ _ _ _ _
      cases (c == Value.type "enumerate")
      · wp_walk using wpAny_loadPart' hl, wpAny_pyIter_tuple hL
        exact ⟨_, rfl, h⟩
      · wp_walk using wpAny_loadPart' hl, wpAny_pyIter_tuple hL
        exact ⟨_, rfl, h⟩
    · wp_walk using wpAny_loadPart' hl, wpAny_pyIter_tuple hL
      exact ⟨_, rfl, h⟩
section
variable {prog : Program} {w : World} {A : Around} {E : Value → Shared → Prop} {s : Shared}
theorem call_enumerate_tup {l : Addr} {items : Array Value} {Q : Value → Shared → Prop} (hL : s.heap.IsTuple l items)
    (h : ∀ h', IsEnum h' (s.heap.objs.size + 1) s.heap.objs.size 0 .none → h'.IsTupleIter s.heap.objs.size l 0 → h'.objs.size = s.heap.objs.size + 2 →
      (∀ b o, s.heap.get? b = some o → h'.get? b = some o) → Q (.ref (s.heap.objs.size + 1)) { s with heap := h' }) :
    wpAny (model prog w) A (call (.type "enumerate") [.ref l]) Q E s := by
  obtain ⟨⟨c, dct, dt, sl⟩, hl, hc, n, hd⟩ := hL
  replace hc : c = .type "tuple" := hc
  replace hd : dt = .seq items n := hd
  subst hc hd
  refine callType_new F.called_enumerate (by decide) (F.typeCall_enumerate_1 _) (F.newCall_enumerate_1 _) (fun obj => F.args_object_init_2 obj _) F.entry_enumerate_new
    (meets_enumerate_newT l items n dct sl) ⟨hl, ?_⟩
  have hz : (s.heap.push { cls := .type "tuple_iterator", data := .fields #[.ref l, .int 0 0] }).objs.size = s.heap.objs.size + 1 := Heap.size_push ..
  show _ ∧ _
  rw [hz]
  have he : IsEnum ((s.heap.push { cls := .type "tuple_iterator", data := .fields #[.ref l, .int 0 0] }).push
      { cls := .type "enumerate", data := .fields #[.none, .bool false, .ref s.heap.objs.size, rawInt 0, .none, .none] }) (s.heap.objs.size + 1) s.heap.objs.size 0 .none := by
    have := Heap.get?_push_size (s.heap.push { cls := .type "tuple_iterator", data := .fields #[.ref l, .int 0 0] })
      (o := { cls := .type "enumerate", data := .fields #[.none, .bool false, .ref s.heap.objs.size, rawInt 0, .none, .none] }) rfl
    rw [hz] at this; exact this
  refine ⟨⟨_, he, rfl⟩, h _ he ⟨_, Heap.get?_push_of_some _ (Heap.get?_push_size _ rfl), rfl, rfl⟩ (by rw [Heap.size_push, hz]) fun b o x => Heap.get?_push_of_some _ (Heap.get?_push_of_some _ x)⟩
end
def IteT (K : PySem.W.Frag) (a : Addr) : It :=
  ⟨fun i H => ∃ (xs : List V) (x : V), SqT K H a xs ∧ xs[i]? = some x, fun i H v H' => ∃ T x, v = .ref T ∧ H T = none ∧ H' = upd H T (.tup [.int (i : Nat), x]) ∧ ∀ xs, SqT K H a xs → xs[i]? = some x, fun i H => ∃ xs : List V, SqT K H a xs ∧ xs.length ≤ i⟩
theorem enum_ne {h : Heap} {e it a : Addr} {i : Int} {old : Value} {items : Array Value} (he : IsEnum h e it i old) (ha : h.IsTuple a items) : e ≠ a := fun z => by
  obtain ⟨o, ho, hc, _⟩ := ha
  rw [← z, he] at ho
  have e2 := Option.some.inj ho
  rw [← e2] at hc
  injection hc with q
  exact absurd q (by decide)
theorem turn_enumT {P : Program} {w : World} {K : PySem.W.Frag} {elts : List Expr} {kk : Nat} {tpos : Pos} (a e it : Addr) (hat : a ≠ it) :
    Turn P w K (.Tuple elts kk tpos) (IteT K a) [e, it] e (fun i h => (∃ old, IsEnum h e it ((i : Nat) : Int) old) ∧ h.IsTupleIter it a i ∧ e ≠ it) where
  mem := by simp
  obj := fun i h st b hb => by
    obtain ⟨⟨old, he⟩, ⟨o, ho, hc, hd⟩, _⟩ := st
    have e' : b = e ∨ b = it := by simpa using hb
    rcases e' with z | z
    · rw [z]; exact ⟨_, he, fun v q => nomatch q⟩
    · rw [z]; exact ⟨o, ho, fun v q => by rw [hd] at q; cases q⟩
  keep := fun i h h' st k => let ⟨⟨old, he⟩, hi, hne⟩ := st; ⟨⟨old, k e (by simp) _ he⟩, hi.at fun o q => k it (by simp) o q, hne⟩
  item := by
    intro X hP hw hK hc i pins s σ H E I hf st hg
    subst hP hw hK
    obtain ⟨⟨old, he⟩, hit, hne⟩ := st
    obtain ⟨xs, x, hq, hx⟩ := hg
    obtain ⟨its, rv, p, hz⟩ := I.tuple hq
    obtain ⟨u, hu, ru⟩ := rv.get hx
    have hel : e < s.heap.objs.size := Heap.lt_size he
    have hil : it < s.heap.objs.size := by obtain ⟨_, q, _⟩ := hit; exact Heap.lt_size q
    have hia : i < its.toArray.size := by
      have q := (List.getElem?_eq_some_iff.mp hu).1
      simpa using q
    have hea : e ≠ a := enum_ne he p
    refine wpAny_pyNext_enum_itemD (Draws.tuple (show X.A.in1.handled = none from I.ok.hd hc) it a hat its.toArray) he ⟨hit, p⟩ hia hne (by simp [hne, hea]) fun y h' tk hy ho hst hT hsz hk => ?_
    obtain rfl : y = u := by
      have q : its.toArray[i]? = some u := by simpa using hu
      rw [q] at hy
      exact (Option.some.inj hy).symm
    refine ⟨_, rfl, wpAny_letOwnedTupleGo_enum (s := { s with heap := h', toks := tk + 1 }) ho fun h'' he' sb => ?_⟩
    have hT2 : h''.get? s.heap.objs.size = some { cls := .type "tuple", data := .seq #[.int i tk, y] } := (sb.2 _ (Nat.ne_of_gt hel)).trans hT
    have new : ObjOk X.prog X.w (upd H s.heap.objs.size (.tup [.int (i : Nat), x])) h'' s.heap.objs.size (.tup [.int (i : Nat), x]) :=
      ⟨by show 2 ≤ sizeLine; decide, [.int i tk, y], .cons ⟨_, rfl⟩ (.cons ru .nil), ⟨_, hT2, rfl, _, rfl⟩⟩
    have I1 : Inv X pins σ (upd H s.heap.objs.size (.tup [.int (i : Nat), x])) { s with heap := h'', toks := tk + 1 } :=
      I.turnedNew (ch := [e, it]) (fun b ob hb q => (sb.2 b (fun z => hb (by simp [z]))).trans (hk b ob (fun z => hb (by simp [z])) (fun z => hb (by simp [z])) q)) hf (Nat.le_refl _) new
    refine ⟨.ref s.heap.objs.size, _, I1, rfl, ⟨_, x, rfl, I.hok.fresh (Nat.le_refl _), rfl, fun ys hy => by rw [I.tuple_inj hy hq]; exact hx⟩, ⟨⟨y, ?_⟩, hst.1.at fun o q => (sb.2 it (Ne.symm hne)).trans q, hne⟩, fun b hb => ?_⟩
    · have e1 : ((i + 1 : Nat) : Int) = (i : Int) + 1 := by omega
      rw [e1]; exact he'
    · have hb' : b < s.heap.objs.size := by
        have e' : b = e ∨ b = it := by simpa using hb
        rcases e' with z | z
        · rw [z]; exact hel
        · rw [z]; exact hil
      rw [upd_ne (Nat.ne_of_lt hb')]
      exact (hf b hb).1
  done := by
    intro X hP hw hK hc i pins s σ H E I hf st hg
    subst hP hw hK
    obtain ⟨⟨old, he⟩, hit, hne⟩ := st
    obtain ⟨xs, hq, hx⟩ := hg
    obtain ⟨its, rv, p, hz⟩ := I.tuple hq
    obtain ⟨f0, f1, f2, f3, f4, f5⟩ := hf it (by simp)
    have hl := rv.length
    have hT : s.TypeIs (.ref e) "enumerate" := ⟨_, he, rfl⟩
    have nx : ∀ (Q : Option Value → Shared → Prop), (∀ h', Heap.ExtBut it s.heap h' → Q none { s with heap := h' }) → wpAny (model X.prog X.w) X.A (pyNext (.ref e)) Q E s := fun Q hQ => by
      unfold pyNext
      refine wpAny_bind (wpAny_attempt (wpAny_callSpecial?_slot (name := Str.ofString "__next__") hT F.slot_enumerate_next
        (wpAny_call_entry F.slot_enumerate_next hT F.entry_enumerate_next ?_ (F.args_enumerate_next_1 _))))
      show wpAny _ _ (field (.ref e) 2 >>= _) _ _ _
      refine wpAny_bind (wpAny_field he rfl (x := .ref it) rfl ?_)
      refine wpAny_bind (wpAny_nextOf_tuple_end (show X.A.in1.handled = none from I.ok.hd hc) hit (show s.heap.IsTuple a its.toArray from p) (by simp; omega) fun h' x he' hx' => ?_)
      obtain ⟨o, ho, hc⟩ := hx'
      refine wpAny_bind (wpAny_isInstance (T := "StopIteration") (b := true) ⟨o, ho, hc⟩ isSubtype_stop ?_)
      exact wpAny_pure (hQ _ he')
    exact nx _ fun h' eb => ⟨rfl, I.turned (t' := s.toks) (fun b o hb q => eb b o hb q) f0 f1 f3 f4 f5⟩
  self := fun A i s Q E st h => let ⟨⟨_, he⟩, _⟩ := st; wpAny_pyIter_enum he h
def iEnumA (K : PySem.W.Frag) (ta : TA) : TI := fun σ H R => ta σ H fun vs H1 => ∃ a xs, vs = [.ref a] ∧ ((SqL K H1 a xs ∧ R (Ite K a) H1) ∨ (SqT K H1 a xs ∧ R (IteT K a) H1))
theorem pi_enumA {X : Cx} {e : Expr} {ta : TA} {p pos tpos : Pos} {elts : List Expr} {kk : Nat} (hg : Gl X "enumerate") (hm : X.mg "enumerate" = none) (ha : PA X [e] ta) (hs : starEach [e] X.env = [(false, eval e X.env)] := by rfl) :
    PI X (.Tuple elts kk tpos) (.Call (.Name "enumerate" p) [e] [] pos) (iEnumA X.K ta) := by
  refine ⟨fun pins s σ H R I h => ?_⟩
  refine Call_ (ld_blt I hg hm boot_enumerate (PyProof.Rows.callWith_type1 (thn (ha.run pos pins s σ H _ I h) fun us s1 ⟨vs, H1, I1, r1, q1⟩ => ?_) hs rfl))
  obtain ⟨a, xs, ex, q⟩ := q1
  subst ex
  cases r1 with
  | cons r rr =>
    cases rr
    cases r
    rcases q with ⟨hq, q⟩ | ⟨hq, q⟩
    · obtain ⟨its, rv, p', hz⟩ := I1.list hq
      refine call_enumerate_list p'.isList fun h' he hit hsz hk => wpAny_pyIter_enum he ?_
      have I2 : Inv X pins σ H1 { s1 with heap := h' } := I1.kept (t' := s1.toks) hk
      refine ⟨s1.heap.objs.size + 1, [s1.heap.objs.size + 1, s1.heap.objs.size], _, _, H1, rfl, I2, turn_enum a (s1.heap.objs.size + 1) s1.heap.objs.size, ⟨⟨.none, he⟩, hit, Nat.succ_ne_self _⟩, fun b hb => ?_, q⟩
      have e' : b = s1.heap.objs.size + 1 ∨ b = s1.heap.objs.size := by simpa using hb
      have hle : s1.heap.objs.size ≤ b := by
        rcases e' with z | z
        · rw [z]; exact Nat.le_add_right _ _
        · rw [z]; exact Nat.le_refl _
      exact I1.fpOk hle (I1.hok.fresh hle)
    · obtain ⟨its, rv, p', hz⟩ := I1.tuple hq
      have hal : a < s1.heap.objs.size := by obtain ⟨o, ho, _⟩ := id p'; exact Heap.lt_size ho
      refine call_enumerate_tup (show s1.heap.IsTuple a its.toArray from p') fun h' he hit hsz hk => wpAny_pyIter_enum he ?_
      have I2 : Inv X pins σ H1 { s1 with heap := h' } := I1.kept (t' := s1.toks) hk
      refine ⟨s1.heap.objs.size + 1, [s1.heap.objs.size + 1, s1.heap.objs.size], _, _, H1, rfl, I2, turn_enumT a (s1.heap.objs.size + 1) s1.heap.objs.size (Nat.ne_of_lt hal), ⟨⟨.none, he⟩, hit, Nat.succ_ne_self _⟩, fun b hb => ?_, q⟩
      have e' : b = s1.heap.objs.size + 1 ∨ b = s1.heap.objs.size := by simpa using hb
      have hle : s1.heap.objs.size ≤ b := by
        rcases e' with z | z
        · rw [z]; exact Nat.le_add_right _ _
        · rw [z]; exact Nat.le_refl _
      exact I1.fpOk hle (I1.hok.fresh hle)
end Wk
namespace Wk
open PySem L2 Evl
section
variable {K : PySem.W.Frag} {ρ : Rho} {M : Mm} {Ψ : List Dt → (Mm → Prop) → Mm → Prop} {ta : TA}
def enumD (xs : List Dt) : List Dt := (List.range xs.length).map fun i => .tup [.int (i : Nat), xs.getD i .non]
theorem enumD_len {xs : List Dt} : (enumD xs).length = xs.length := by unfold enumD; rw [List.length_map, List.length_range]
theorem enumD_get {xs : List Dt} {i : Nat} {x : Dt} (h : xs[i]? = some x) : (enumD xs)[i]? = some (.tup [.int (i : Nat), x]) := by
  have hi := (List.getElem?_eq_some_iff.mp h).1
  unfold enumD
  rw [List.getElem?_map, List.getElem?_range hi]
  show some (Dt.tup [.int (i : Nat), xs.getD i .non]) = _
  rw [List.getD_eq_getElem?_getD, h] <;> rfl
theorem enumD_inv {xs : List Dt} {i : Nat} {d : Dt} (h : (enumD xs)[i]? = some d) : ∃ x, xs[i]? = some x ∧ d = .tup [.int (i : Nat), x] := by
  have hi := (List.getElem?_eq_some_iff.mp h).1
  rw [enumD_len] at hi
  have e := enumD_get (List.getElem?_eq_getElem hi)
  rw [e] at h
  exact ⟨_, List.getElem?_eq_getElem hi, (Option.some.inj h).symm⟩
theorem ix_enum (h : AX K ta ρ M (fun ds M1 => ∃ d xs G, ds = [d] ∧ WSrc M1 d xs G ∧ Ψ (enumD xs) G M1)) : IX K (iEnumA K ta) ρ M Ψ := fun B H H1 σ o s R q =>
  h B H H1 σ o s _ fun vs ds M' H' H2 z k e r => by
    obtain ⟨d, xs, G, rfl, hs, z⟩ := z
    cases r with
    | cons r rr =>
      cases rr
      have wl : ∀ {a : Addr} {us : List V}, (∀ B H3 H4 M3, Ok K B H3 H4 M3 → Ex H' H3 → G M3 → ∃ us, SqL K H4 a us ∧ RpAll K H3 us xs) → WalkD K (Ite K a) G H' (enumD xs) := fun {a us} h => ⟨fun i B H3 H4 M3 hi o e g => by
        obtain ⟨us, h1, r⟩ := h B H3 H4 M3 o e g
        have hi' : i < us.length := by rw [r.length, ← enumD_len]; exact hi
        exact ⟨us, us[i], h1, List.getElem?_eq_getElem hi'⟩, fun B H3 H4 M3 o e g => by
        obtain ⟨us, h1, r⟩ := h B H3 H4 M3 o e g
        exact ⟨us, h1, by rw [r.length, enumD_len]; exact Nat.le_refl _⟩, fun i x H5 B H3 H4 M3 hi o e g y => by
        obtain ⟨us, h1, r⟩ := h B H3 H4 M3 o e g
        obtain ⟨T, v, y1, y2, y3, y4⟩ := y
        obtain ⟨d, h2, h3⟩ := r.getV (y4 us h1)
        exact .inr ⟨T, _, [.int (i : Nat), d], y1, y2, y3, .cons (.int _) (.one h3), enumD_get h2⟩⟩
      have wt : ∀ {a : Addr} {us : List V}, (∀ B H3 H4 M3, Ok K B H3 H4 M3 → Ex H' H3 → G M3 → ∃ us, SqT K H4 a us ∧ RpAll K H3 us xs) → WalkD K (IteT K a) G H' (enumD xs) := fun {a us} h => ⟨fun i B H3 H4 M3 hi o e g => by
        obtain ⟨us, h1, r⟩ := h B H3 H4 M3 o e g
        have hi' : i < us.length := by rw [r.length, ← enumD_len]; exact hi
        exact ⟨us, us[i], h1, List.getElem?_eq_getElem hi'⟩, fun B H3 H4 M3 o e g => by
        obtain ⟨us, h1, r⟩ := h B H3 H4 M3 o e g
        exact ⟨us, h1, by rw [r.length, enumD_len]; exact Nat.le_refl _⟩, fun i x H5 B H3 H4 M3 hi o e g y => by
        obtain ⟨us, h1, r⟩ := h B H3 H4 M3 o e g
        obtain ⟨T, v, y1, y2, y3, y4⟩ := y
        obtain ⟨d, h2, h3⟩ := r.getV (y4 us h1)
        exact .inr ⟨T, _, [.int (i : Nat), d], y1, y2, y3, .cons (.int _) (.one h3), enumD_get h2⟩⟩
      rcases hs with ⟨rfl | rfl | rfl, rfl⟩ | ⟨a, rfl, hm, rfl⟩
      · obtain ⟨a, us, rfl, h1, r1⟩ := r.lst_inv
        exact ⟨a, us, rfl, .inl ⟨sq_of (k.h _ _ h1), q _ _ _ M' H' H2 z k e (wl (us := us) fun B H3 H4 M3 o e g => ⟨us, sq_of (o.h _ _ (e _ _ h1)), r1.mono e⟩)⟩⟩
      · obtain ⟨a, us, rfl, h1, r1⟩ := r.frl_inv
        exact ⟨a, us, rfl, .inl ⟨ex_l k.h h1, q _ _ _ M' H' H2 z k e (wl (us := us) fun B H3 H4 M3 o e g => ⟨us, ex_l o.h (ex_l e h1), r1.mono e⟩)⟩⟩
      · obtain ⟨a, us, rfl, h1, r1⟩ := r.tup_inv
        exact ⟨a, us, rfl, .inr ⟨ex_t k.h h1, q _ _ _ M' H' H2 z k e (wt (us := us) fun B H3 H4 M3 o e g => ⟨us, ex_t o.h (ex_t e h1), r1.mono e⟩)⟩⟩
      · obtain ⟨m1, m2, us, h1, r1⟩ := k.m a _ hm
        exact ⟨a, us, by rw [r.raw_inv], .inl ⟨sq_of h1, q _ _ _ M' H' H2 z k e (wl (us := us) fun B H3 H4 M3 o e g => by
          obtain ⟨m1, m2, us, h1, r1⟩ := o.m a _ g
          exact ⟨us, sq_of h1, r1⟩)⟩⟩
/-- zip of two tuples, of two lists: data -/
def zipD (xs ys : List Dt) : List Dt := (List.range (min xs.length ys.length)).map fun i => .tup [xs.getD i .non, ys.getD i .non]
theorem zipD_len {xs ys : List Dt} : (zipD xs ys).length = min xs.length ys.length := by unfold zipD; rw [List.length_map, List.length_range]
theorem zipD_get {xs ys : List Dt} {i : Nat} {x y : Dt} (h : xs[i]? = some x) (h2 : ys[i]? = some y) : (zipD xs ys)[i]? = some (.tup [x, y]) := by
  have hi := (List.getElem?_eq_some_iff.mp h).1
  have hj := (List.getElem?_eq_some_iff.mp h2).1
  unfold zipD
  rw [List.getElem?_map, List.getElem?_range (by omega)]
  show some (Dt.tup [xs.getD i .non, ys.getD i .non]) = _
  rw [List.getD_eq_getElem?_getD, List.getD_eq_getElem?_getD, h, h2] <;> rfl
theorem zipD_inv {xs ys : List Dt} {i : Nat} {d : Dt} (h : (zipD xs ys)[i]? = some d) : ∃ x y, xs[i]? = some x ∧ ys[i]? = some y ∧ d = .tup [x, y] := by
  have hi := (List.getElem?_eq_some_iff.mp h).1
  rw [zipD_len] at hi
  have h1 : i < xs.length := by omega
  have h2 : i < ys.length := by omega
  have e := zipD_get (List.getElem?_eq_getElem h1) (List.getElem?_eq_getElem h2)
  rw [e] at h
  exact ⟨_, _, List.getElem?_eq_getElem h1, List.getElem?_eq_getElem h2, (Option.some.inj h).symm⟩
theorem ix_zip (h : AX K ta ρ M (fun ds M1 => ∃ xs ys, (ds = [.tup xs, .tup ys] ∨ ds = [.lst xs, .lst ys]) ∧ Ψ (zipD xs ys) (fun _ => True) M1)) : IX K (RZ.iZipA K ta) ρ M Ψ := fun B H H1 σ o s R q =>
  h B H H1 σ o s _ fun vs ds M' H' H2 z k e r => by
    obtain ⟨xs, ys, hd, z⟩ := z
    rcases hd with rfl | rfl
    · cases r with
      | cons ra rr =>
        cases rr with
        | cons rb rr =>
          cases rr
          obtain ⟨a, us, rfl, h1, r1⟩ := ra.tup_inv
          obtain ⟨b, ws, rfl, h2, r2⟩ := rb.tup_inv
          refine ⟨a, b, us, ws, rfl, .inr ⟨ex_t k.h h1, ex_t k.h h2, q _ _ _ M' H' H2 z k e ⟨fun i B H3 H4 M3 hi o e g => ?_, fun B H3 H4 M3 o e g => ?_, fun i x H5 B H3 H4 M3 hi o e g y => ?_⟩⟩⟩
          · rw [zipD_len] at hi
            have h1' : i < us.length := by rw [r1.length]; omega
            have h2' : i < ws.length := by rw [r2.length]; omega
            exact ⟨us, ws, us[i], ws[i], ex_t o.h (ex_t e h1), ex_t o.h (ex_t e h2), List.getElem?_eq_getElem h1', List.getElem?_eq_getElem h2'⟩
          · exact ⟨us, ws, ex_t o.h (ex_t e h1), ex_t o.h (ex_t e h2), by rw [r1.length, r2.length, zipD_len]; omega⟩
          · obtain ⟨T, x1, x2, y1, y2, y3, y4, y5⟩ := y
            obtain ⟨d1, g1, g2⟩ := r1.getV (y4 us (ex_t o.h (ex_t e h1)))
            obtain ⟨d2, g3, g4⟩ := r2.getV (y5 ws (ex_t o.h (ex_t e h2)))
            exact .inr ⟨T, _, [d1, d2], y1, y2, y3, .cons (g2.mono e) (.one (g4.mono e)), zipD_get g1 g3⟩
    · cases r with
      | cons ra rr =>
        cases rr with
        | cons rb rr =>
          cases rr
          obtain ⟨a, us, rfl, h1, r1⟩ := ra.lst_inv
          obtain ⟨b, ws, rfl, h2, r2⟩ := rb.lst_inv
          refine ⟨a, b, us, ws, rfl, .inl ⟨sq_of (k.h _ _ h1), sq_of (k.h _ _ h2), q _ _ _ M' H' H2 z k e ⟨fun i B H3 H4 M3 hi o e g => ?_, fun B H3 H4 M3 o e g => ?_, fun i x H5 B H3 H4 M3 hi o e g y => ?_⟩⟩⟩
          · rw [zipD_len] at hi
            have h1' : i < us.length := by rw [r1.length]; omega
            have h2' : i < ws.length := by rw [r2.length]; omega
            exact ⟨us, ws, us[i], ws[i], sq_of (o.h _ _ (e _ _ h1)), sq_of (o.h _ _ (e _ _ h2)), List.getElem?_eq_getElem h1', List.getElem?_eq_getElem h2'⟩
          · exact ⟨us, ws, sq_of (o.h _ _ (e _ _ h1)), sq_of (o.h _ _ (e _ _ h2)), by rw [r1.length, r2.length, zipD_len]; omega⟩
          · obtain ⟨T, x1, x2, y1, y2, y3, y4, y5⟩ := y
            obtain ⟨d1, g1, g2⟩ := r1.getV (y4 us (sq_of (o.h _ _ (e _ _ h1))))
            obtain ⟨d2, g3, g4⟩ := r2.getV (y5 ws (sq_of (o.h _ _ (e _ _ h2))))
            exact .inr ⟨T, _, [d1, d2], y1, y2, y3, .cons (g2.mono e) (.one (g4.mono e)), zipD_get g1 g3⟩
end
end Wk
namespace Wk
open PySem PySem.Spec PyProof.Rows L2
open Sem (wp)
abbrev ZHeld (h : Heap) (z TI TO T : Addr) (f : Bool) : Prop :=
  h.get? z = some { cls := .type "zip", dict := none, data := .fields #[rawInt T, .bool f, .bool false, .ref TI, .ref TO], slots := #[] }
section
variable {prog : Program} {w : World} {A : Around} {E : Value → Shared → Prop} {s : Shared}
theorem alive_obj {a : Addr} {o : Obj} {Q : Option Obj → Shared → Prop} (ho : s.heap.get? a = some o) (h : Q (some o) s) : wpAny (model prog w) A (loadIfAlive a) Q E s := by
  have h' : Q (s.heap.get? a) s := by rw [ho]; exact h
  exact fun _ _ _ => h'
theorem held_free {z TI TO T : Addr} {f : Bool} {oT : Obj} {Q : Bool → Shared → Prop} (hz : ZHeld s.heap z TI TO T f) (hT : s.heap.get? T = some oT)
    (h : ∀ h', ZHeld h' z TI TO T true → Heap.SameBut z s.heap h' → Q false { s with heap := h' }) : wpAny (model prog w) A (Builtin.SmallTypes.ownedTupleIsFree (.ref z)) Q E s := by
  unfold Builtin.SmallTypes.ownedTupleIsFree
  refine wpAny_bind (wpAny_field hz rfl (x := rawInt T) rfl ?_)
  show wpAny _ _ (loadIfAlive ((T : Int).toNat) >>= _) _ _ _
  rw [Int.toNat_natCast]
  refine wpAny_bind (alive_obj hT ?_)
  simp only [Option.isNone_some, Bool.false_eq_true, if_false]
  refine wpAny_bind (wpAny_field hz rfl (x := .bool f) rfl ?_)
  cases f with
  | true =>
    rw [if_neg (show ¬ ((Value.bool true != Value.bool true) = true) from Bool.false_ne_true)]
    exact wpAny_pure (h s.heap hz (Heap.SameBut.refl _ _))
  | false =>
    rw [if_pos (show (Value.bool false != Value.bool true) = true from rfl)]
    exact wpAny_bind (wpAny_setField_rec hz (by simp) fun h₁ hz₁ hs₁ => wpAny_pure (h h₁ hz₁ hs₁))
theorem zipH_item {z TI TO T i1 i2 l1 l2 : Addr} {f : Bool} {oT : Obj} {k1 k2 : Nat} {xs ys : Array Value} {x y : Value} {Q : Value → Shared → Prop} (D : ZipApart z TI TO i1 i2 l1 l2)
    (hz : ZHeld s.heap z TI TO T f) (hT : s.heap.get? T = some oT) (hTI : IsPair s.heap TI (.ref i1) (.ref i2))
    (h1 : s.heap.IsTupleIter i1 l1 k1) (h2 : s.heap.IsTupleIter i2 l2 k2) (hl1 : s.heap.IsTuple l1 xs) (hl2 : s.heap.IsTuple l2 ys) (hx : xs[k1]? = some x) (hy : ys[k2]? = some y)
    (hQ : ∀ h', ZHeld h' z TI TO T true → h'.IsTupleIter i1 l1 (k1 + 1) → h'.IsTupleIter i2 l2 (k2 + 1) → IsPair h' s.heap.objs.size x y → h'.objs.size = s.heap.objs.size + 1 →
      (∀ c o, c ≠ z → c ≠ i1 → c ≠ i2 → s.heap.get? c = some o → h'.get? c = some o) → Q (.ref s.heap.objs.size) { s with heap := h' }) :
    wpAny (model prog w) A (Builtin.«zip.__next__» ⟨[.ref z], []⟩) (fun fin s' => ∃ v, fin = .done (.ret v) ∧ Q v s') E s := by
  show wpAny _ _ (field (.ref z) 2 >>= _) _ _ _
  refine wpAny_bind (wpAny_field hz rfl (x := .bool false) rfl ?_)
  show wpAny _ _ (field (.ref z) 3 >>= _) _ _ _
  refine wpAny_bind (wpAny_field hz rfl (x := .ref TI) rfl ?_)
  refine wpAny_bind (wpAny_seqItems hTI rfl ?_)
  show wpAny _ _ (Builtin.SmallTypes.ownedTupleIsFree (.ref z) >>= _) _ _ _
  refine wpAny_bind (held_free hz hT fun h₁ hz₁ hs₁ => ?_)
  simp only [Bool.false_eq_true, if_false]
  refine wpAny_bind ?_
  rw [← Array.forIn_toList]
  simp only [List.forIn_cons, List.forIn_nil]
  refine wpAny_bind (wpAny_bind (wpAny_holding ?_))
  show wpAny _ _ (Builtin.SmallTypes.nextOf (.ref i1) >>= _) _ _ _
  refine wpAny_bind (RZ.nextOf_tuple_item (s := { s with heap := h₁ }) (h1.extBut hs₁.extBut D.i1z) (hl1.extBut hs₁.extBut D.l1z) hx fun h₂ h1₂ hs₂ => wpAny_pure ?_)
  refine wpAny_pure ?_
  refine wpAny_bind (wpAny_bind (wpAny_holding ?_))
  show wpAny _ _ (Builtin.SmallTypes.nextOf (.ref i2) >>= _) _ _ _
  refine wpAny_bind (RZ.nextOf_tuple_item (s := { s with heap := h₂ }) ((h2.extBut hs₁.extBut D.i2z).extBut hs₂.extBut D.i12.symm) ((hl2.extBut hs₁.extBut D.l2z).extBut hs₂.extBut D.l2i1) hy fun h₃ h2₃ hs₃ => wpAny_pure ?_)
  refine wpAny_pure (wpAny_pure ?_)
  show wpAny _ _ (newTuple [x, y] >>= _) _ _ _
  refine wpAny_bind (wpAny_newTuple ?_)
  have hsz : h₃.objs.size = s.heap.objs.size := by rw [hs₃.1, hs₂.1, hs₁.1]
  have hz₃ : ZHeld h₃ z TI TO T true := hs₃.extBut _ _ D.i2z.symm (hs₂.extBut _ _ D.i1z.symm hz₁)
  have hk : ∀ c o, c ≠ z → c ≠ i1 → c ≠ i2 → s.heap.get? c = some o → h₃.get? c = some o := fun c o c1 c2 c3 e => hs₃.extBut _ _ c3 (hs₂.extBut _ _ c2 (hs₁.extBut _ _ c1 e))
  have h1₃ : h₃.IsTupleIter i1 l1 (k1 + 1) := h1₂.extBut hs₃.extBut D.i12
  refine wpAny_pure ⟨_, rfl, ?_⟩
  show Q (.ref h₃.objs.size) _
  have hp : IsPair (h₃.push { cls := .type "tuple", data := .seq #[x, y] }) h₃.objs.size x y := Heap.get?_push_size _ rfl
  have hz4 : (h₃.push { cls := .type "tuple", data := .seq #[x, y] }).objs.size = h₃.objs.size + 1 := Heap.size_push ..
  rw [hsz] at hp hz4 ⊢
  exact hQ _ (Heap.get?_push_of_some _ hz₃) (h1₃.at fun o e => Heap.get?_push_of_some _ e) (h2₃.at fun o e => Heap.get?_push_of_some _ e) hp hz4 fun c o c1 c2 c3 e => Heap.get?_push_of_some _ (hk c o c1 c2 c3 e)
theorem zipH_end {z TI TO T i1 i2 l1 l2 : Addr} {f : Bool} {oT : Obj} {k1 k2 : Nat} {xs ys : Array Value} {Q : Fin → Shared → Prop} (hh : A.handled = none) (D : ZipApart z TI TO i1 i2 l1 l2)
    (hz : ZHeld s.heap z TI TO T f) (hT : s.heap.get? T = some oT) (hTI : IsPair s.heap TI (.ref i1) (.ref i2))
    (h1 : s.heap.IsTupleIter i1 l1 k1) (h2 : s.heap.IsTupleIter i2 l2 k2) (hl1 : s.heap.IsTuple l1 xs) (hl2 : s.heap.IsTuple l2 ys) (hend : xs[k1]? = none ∨ ys[k2]? = none)
    (hE : ∀ h' e, (∀ c o, c ≠ z → c ≠ i1 → c ≠ i2 → s.heap.get? c = some o → h'.get? c = some o) → (∃ o, h'.get? e = some o ∧ o.cls = .type "StopIteration") → E (.ref e) { s with heap := h' }) :
    wpAny (model prog w) A (Builtin.«zip.__next__» ⟨[.ref z], []⟩) Q E s := by
  show wpAny _ _ (field (.ref z) 2 >>= _) _ _ _
  refine wpAny_bind (wpAny_field hz rfl (x := .bool false) rfl ?_)
  show wpAny _ _ (field (.ref z) 3 >>= _) _ _ _
  refine wpAny_bind (wpAny_field hz rfl (x := .ref TI) rfl ?_)
  refine wpAny_bind (wpAny_seqItems hTI rfl ?_)
  show wpAny _ _ (Builtin.SmallTypes.ownedTupleIsFree (.ref z) >>= _) _ _ _
  refine wpAny_bind (held_free hz hT fun h₁ hz₁ hs₁ => ?_)
  simp only [Bool.false_eq_true, if_false]
  refine wpAny_bind ?_
  rw [← Array.forIn_toList]
  simp only [List.forIn_cons, List.forIn_nil]
  refine wpAny_bind (wpAny_bind (wpAny_holding ?_))
  show wpAny _ _ (Builtin.SmallTypes.nextOf (.ref i1) >>= _) _ _ _
  cases hx : xs[k1]? with
  | none =>
    refine wpAny_bind (RZ.nextOf_tuple_end (s := { s with heap := h₁ }) hh (h1.extBut hs₁.extBut D.i1z) (hl1.extBut hs₁.extBut D.l1z) hx fun h₂ e hs₂ he => ?_)
    exact hE h₂ e (fun c o c1 c2 _ x => hs₂ _ _ c2 (hs₁.extBut _ _ c1 x)) he
  | some x =>
    have hy : ys[k2]? = none := by rcases hend with h | h; rw [hx] at h; cases h; exact h
    refine wpAny_bind (RZ.nextOf_tuple_item (s := { s with heap := h₁ }) (h1.extBut hs₁.extBut D.i1z) (hl1.extBut hs₁.extBut D.l1z) hx fun h₂ h1₂ hs₂ => wpAny_pure ?_)
    refine wpAny_pure ?_
    refine wpAny_bind (wpAny_bind (wpAny_holding ?_))
    show wpAny _ _ (Builtin.SmallTypes.nextOf (.ref i2) >>= _) _ _ _
    refine wpAny_bind (RZ.nextOf_tuple_end (s := { s with heap := h₂ }) hh ((h2.extBut hs₁.extBut D.i2z).extBut hs₂.extBut D.i12.symm) ((hl2.extBut hs₁.extBut D.l2z).extBut hs₂.extBut D.l2i1) hy fun h₃ e hs₃ he => ?_)
    exact hE h₃ e (fun c o c1 c2 c3 x => hs₃ _ _ c3 (hs₂.extBut _ _ c2 (hs₁.extBut _ _ c1 x))) he
/-- a zip between two draws, its last pair kept by somebody -/
structure ZSt (h : Heap) (z TI TO i1 i2 l1 l2 : Addr) (xs ys : Array Value) (i : Nat) : Prop where
  zp : (IsZip h z TI TO .none ∧ ∃ x y, IsPair h TO x y) ∨ ∃ T f oT, ZHeld h z TI TO T f ∧ h.get? T = some oT ∧ T ≠ z ∧ T ≠ TO ∧ T ≠ i1 ∧ T ≠ i2
  ti : IsPair h TI (.ref i1) (.ref i2)
  a1 : h.IsTupleIter i1 l1 i
  a2 : h.IsTupleIter i2 l2 i
  t1 : h.IsTuple l1 xs
  t2 : h.IsTuple l2 ys
theorem held_of_zip {h : Heap} {z TI TO T : Addr} (e : IsZip h z TI TO (rawInt T)) : ZHeld h z TI TO T false := e
theorem zst_next {z TI TO i1 i2 l1 l2 : Addr} {i : Nat} {xs ys : Array Value} {x y : Value} {Q : Option Value → Shared → Prop} (D : ZipApart z TI TO i1 i2 l1 l2) (S : ZSt s.heap z TI TO i1 i2 l1 l2 xs ys i)
    (hlt : ∀ c ∈ [z, TO, i1, i2], c < s.heap.objs.size) (hx : xs[i]? = some x) (hy : ys[i]? = some y)
    (hQ : ∀ h', ZSt h' z TI TO i1 i2 l1 l2 xs ys (i + 1) → IsPair h' s.heap.objs.size x y → h'.objs.size = s.heap.objs.size + 1 →
      (∀ c o, c ≠ z → c ≠ TO → c ≠ i1 → c ≠ i2 → s.heap.get? c = some o → h'.get? c = some o) → Q (some (.ref s.heap.objs.size)) { s with heap := h' }) :
    wpAny (model prog w) A (pyNext (.ref z)) Q E s := by
  have ne : ∀ c ∈ [z, TO, i1, i2], s.heap.objs.size ≠ c := fun c hc => Nat.ne_of_gt (hlt c hc)
  obtain ⟨zp, ti, a1, a2, t1, t2⟩ := S
  rcases zp with ⟨hz, u, v, hTO⟩ | ⟨T, f, oT, hz, hT, n1, n2, n3, n4⟩
  · refine RZ.pyNext_zipT_item D hz ti hTO a1 a2 t1 t2 hx hy fun h' q1 q2 q3 q4 q5 q6 q7 => ?_
    exact hQ h' ⟨.inr ⟨s.heap.objs.size, false, _, held_of_zip q1, q5, ne z (by simp), ne TO (by simp), ne i1 (by simp), ne i2 (by simp)⟩, q7 _ _ D.TIz D.TITO D.TIi1 D.TIi2 ti, q3, q4,
      t1.at fun o e => q7 _ o D.l1z D.l1TO D.l1i1 D.l1i2 e, t2.at fun o e => q7 _ o D.l2z D.l2TO D.l2i1 D.l2i2 e⟩ q5 q6 q7
  · have hTy : s.TypeIs (.ref z) "zip" := ⟨_, hz, rfl⟩
    unfold pyNext
    refine wpAny_bind (wpAny_attempt (wpAny_callSpecial?_slot (name := Str.ofString "__next__") hTy F.slot_zip_next
      (wpAny_call_entry F.slot_zip_next hTy F.entry_zip_next
        (zipH_item D hz hT ti a1 a2 t1 t2 hx hy fun h' q1 q3 q4 q5 q6 q7 => wpAny_pure ?_) (F.args_zip_next_1 _))))
    exact hQ h' ⟨.inr ⟨T, true, _, q1, q7 T _ n1 n3 n4 hT, n1, n2, n3, n4⟩, q7 _ _ D.TIz D.TIi1 D.TIi2 ti, q3, q4,
      t1.at fun o e => q7 _ o D.l1z D.l1i1 D.l1i2 e, t2.at fun o e => q7 _ o D.l2z D.l2i1 D.l2i2 e⟩ q5 q6 fun c o c1 _ c3 c4 e => q7 c o c1 c3 c4 e
theorem zst_end {z TI TO i1 i2 l1 l2 : Addr} {i : Nat} {xs ys : Array Value} {Q : Option Value → Shared → Prop} (hh : A.handled = none) (D : ZipApart z TI TO i1 i2 l1 l2) (S : ZSt s.heap z TI TO i1 i2 l1 l2 xs ys i) (hend : xs[i]? = none ∨ ys[i]? = none)
    (hQ : ∀ h', (∀ c o, c ≠ z → c ≠ TO → c ≠ i1 → c ≠ i2 → s.heap.get? c = some o → h'.get? c = some o) → Q none { s with heap := h' }) : wpAny (model prog w) A (pyNext (.ref z)) Q E s := by
  obtain ⟨zp, ti, a1, a2, t1, t2⟩ := S
  rcases zp with ⟨hz, u, v, hTO⟩ | ⟨T, f, oT, hz, hT, n1, n2, n3, n4⟩
  · exact RZ.pyNext_zipT_end hh D hz ti hTO a1 a2 t1 t2 hend hQ
  · have hTy : s.TypeIs (.ref z) "zip" := ⟨_, hz, rfl⟩
    unfold pyNext
    refine wpAny_bind (wpAny_attempt (wpAny_callSpecial?_slot (name := Str.ofString "__next__") hTy F.slot_zip_next
      (wpAny_call_entry F.slot_zip_next hTy F.entry_zip_next (zipH_end hh D hz hT ti a1 a2 t1 t2 hend fun h' e hk he => ?_) (F.args_zip_next_1 _))))
    obtain ⟨o, ho, hc⟩ := he
    refine wpAny_bind (wpAny_isInstance (T := "StopIteration") (b := true) ⟨o, ho, hc⟩ isSubtype_stop ?_)
    exact wpAny_pure (hQ _ fun c o c1 _ c3 c4 e => hk c o c1 c3 c4 e)
end
theorem tup_ne : Value.type "tuple" ≠ Value.type "list" := by decide
theorem zip_ne : Value.type "zip" ≠ Value.type "list" := by decide
theorem ZSt.keep {h h' : Heap} {z TI TO i1 i2 l1 l2 : Addr} {xs ys : Array Value} {i : Nat} (S : ZSt h z TI TO i1 i2 l1 l2 xs ys i) (c : Addr) (hc : ∃ o, h.get? c = some o ∧ o.cls = .type "list") (k : ∀ b o, b ≠ c → h.get? b = some o → h'.get? b = some o) (kc : ∀ o, h.get? c = some o → ∃ o', h'.get? c = some o') : ZSt h' z TI TO i1 i2 l1 l2 xs ys i := by
  obtain ⟨oc, hoc, hcl⟩ := hc
  obtain ⟨zp, ti, a1, a2, t1, t2⟩ := S
  have nt : ∀ {b : Addr} {o : Obj}, h.get? b = some o → o.cls ≠ .type "list" → b ≠ c := fun {b o} e n q => by
    subst q
    rw [hoc] at e
    cases e
    exact n hcl
  refine ⟨?_, k _ _ (nt ti tup_ne) ti, ?_, ?_, ?_, ?_⟩
  · rcases zp with ⟨hz, u, v, hTO⟩ | ⟨T, f, oT, hz, hT, n1, n2, n3, n4⟩
    · exact .inl ⟨k _ _ (nt hz zip_ne) hz, u, v, k _ _ (nt hTO tup_ne) hTO⟩
    · by_cases hTc : T = c
      · subst hTc
        obtain ⟨o', ho'⟩ := kc _ hT
        exact .inr ⟨T, f, o', k _ _ (nt hz zip_ne) hz, ho', n1, n2, n3, n4⟩
      · exact .inr ⟨T, f, oT, k _ _ (nt hz zip_ne) hz, k _ _ hTc hT, n1, n2, n3, n4⟩
  · obtain ⟨o, e, c1, d1⟩ := a1
    exact ⟨o, k _ _ (nt e (by rw [c1]; decide)) e, c1, d1⟩
  · obtain ⟨o, e, c1, d1⟩ := a2
    exact ⟨o, k _ _ (nt e (by rw [c1]; decide)) e, c1, d1⟩
  · obtain ⟨o, e, c1, d1⟩ := t1
    exact ⟨o, k _ _ (nt e (by rw [c1]; decide)) e, c1, d1⟩
  · obtain ⟨o, e, c1, d1⟩ := t2
    exact ⟨o, k _ _ (nt e (by rw [c1]; decide)) e, c1, d1⟩
theorem ZSt.mono {h h' : Heap} {z TI TO i1 i2 l1 l2 : Addr} {xs ys : Array Value} {i : Nat} (S : ZSt h z TI TO i1 i2 l1 l2 xs ys i) (k : ∀ b o, h.get? b = some o → h'.get? b = some o) : ZSt h' z TI TO i1 i2 l1 l2 xs ys i := by
  obtain ⟨zp, ti, a1, a2, t1, t2⟩ := S
  refine ⟨?_, k _ _ ti, a1.at fun o e => k _ _ e, a2.at fun o e => k _ _ e, t1.at fun o e => k _ _ e, t2.at fun o e => k _ _ e⟩
  rcases zp with ⟨hz, u, v, hTO⟩ | ⟨T, f, oT, hz, hT, n1, n2, n3, n4⟩
  · exact .inl ⟨k _ _ hz, u, v, k _ _ hTO⟩
  · exact .inr ⟨T, f, oT, k _ _ hz, k _ _ hT, n1, n2, n3, n4⟩
/-- pairs newly made, one behind another -/
inductive NewT (H : Hp) : List (V × V) → List Addr → Hp → Prop
  | nil : NewT H [] [] H
  | snoc {ps : List (V × V)} {ts : List Addr} {H1 : Hp} {T : Addr} {x y : V} : NewT H ps ts H1 → H1 T = none → NewT H (ps ++ [(x, y)]) (ts ++ [T]) (upd H1 T (.tup [x, y]))
theorem NewT.len {H H' : Hp} {ps : List (V × V)} {ts : List Addr} (n : NewT H ps ts H') : ps.length = ts.length := by
  induction n with
  | nil => rfl
  | snoc n h ih => rw [List.length_append, List.length_append, ih] <;> rfl
theorem upd_swap {H : Hp} {a b : Addr} {o u : HO} (h : a ≠ b) : upd (upd H a o) b u = upd (upd H b u) a o := by
  funext c
  by_cases h1 : c = a
  · subst h1
    rw [upd_ne h, upd_same, upd_same]
  · by_cases h2 : c = b
    · subst h2
      rw [upd_same, upd_ne h1, upd_same]
    · rw [upd_ne h2, upd_ne h1, upd_ne h1, upd_ne h2]
theorem upd_upd {H : Hp} {a : Addr} {o u : HO} : upd (upd H a o) a u = upd H a u := by
  funext c
  by_cases h1 : c = a
  · subst h1
    rw [upd_same, upd_same]
  · rw [upd_ne h1, upd_ne h1, upd_ne h1]
section
variable {X : Cx} {pins : List (Addr × Obj)} {σ : L2.St} {A : Around}
/-- the loop behind list(zip(..)): S is the new list -/
theorem zip_loop {z TI TO i1 i2 l1 l2 S : Addr} {us ws : List Value} {xs ys : List V} (hh : A.in1.handled = none) (D : ZipApart z TI TO i1 i2 l1 l2) (rx : Vals xs us) (ry : Vals ys ws) (res : Value) (Hk : Hp) (hS : Hk S = none) (hz : xs.length ≤ sizeLine) {R : Result → Shared → Prop}
    (hR : ∀ ts H' s', NewT Hk (xs.zip ys) ts H' → H' S = none → Inv X pins σ (upd H' S (.lst (ts.map V.ref))) s' → R (.ok (.ret res)) s') :
    ∀ (k i : Nat) (s : Shared) (ts : List Addr) (H : Hp), min xs.length ys.length - i = k → i ≤ min xs.length ys.length → ZSt s.heap z TI TO i1 i2 l1 l2 us.toArray ws.toArray i →
      NewT Hk ((xs.zip ys).take i) ts H → H S = none → Inv X pins σ (upd H S (.lst (ts.map V.ref))) s → (∀ b ∈ [z, TI, TO, i1, i2], FpOk X pins (upd H S (.lst (ts.map V.ref))) b) → S ∉ [z, TI, TO, i1, i2] → (∀ c ∈ [z, TI, TO, i1, i2], c < s.heap.objs.size) →
      codeAny (model X.prog X.w) A (.builtin "list.extend.loop" ⟨[.ref S, .ref z, res], []⟩) R s := by
  have lx := rx.length
  have ly := ry.length
  intro k
  induction k with
  | zero =>
    intro i s ts H hk hi st nt hHS I fp hSn hlt
    have hin : i = min xs.length ys.length := by omega
    refine codeAny_builtin F.entry_extend_loop ?_
    rw [Around.under_plainId F.plain_extend_loop _]
    show wpAny _ A.in1 (pyNext (.ref z) >>= _) _ _ s
    refine wpAny_bind (zst_end hh D st ?_ fun h' hk' => ?_)
    · by_cases h1 : us.length ≤ i
      · exact .inl (by simp; omega)
      · exact .inr (by simp; omega)
    · refine wpAny_pure ?_
      have e : (xs.zip ys).take i = xs.zip ys := List.take_of_length_le (by rw [List.length_zip]; omega)
      rw [e] at nt
      exact hR ts H _ nt hHS (I.turnedL (t' := s.toks) (ch := [z, TI, TO, i1, i2]) (fun c o hb q => hk' c o (fun q' => hb (by simp [q'])) (fun q' => hb (by simp [q'])) (fun q' => hb (by simp [q'])) (fun q' => hb (by simp [q'])) q) fp)
  | succ k ih =>
    intro i s ts H hk hi st nt hHS I fp hSn hlt
    have h1 : i < xs.length := by omega
    have h2 : i < ys.length := by omega
    obtain ⟨u, hu, ru⟩ := rx.get (List.getElem?_eq_getElem h1)
    obtain ⟨u2, hu2, ru2⟩ := ry.get (List.getElem?_eq_getElem h2)
    refine codeAny_builtin F.entry_extend_loop ?_
    rw [Around.under_plainId F.plain_extend_loop _]
    show wpAny _ A.in1 (pyNext (.ref z) >>= _) _ _ s
    refine wpAny_bind (zst_next D st (fun c hc => hlt c (by
      have e' : c = z ∨ c = TO ∨ c = i1 ∨ c = i2 := by simpa using hc
      rcases e' with q | q | q | q <;> simp [q])) (x := u) (y := u2) (by simpa using hu) (by simpa using hu2) fun h' st' hT hsz hk' => ?_)
    have hTn := I.hok.fresh (Nat.le_refl s.heap.objs.size)
    have hTS : s.heap.objs.size ≠ S := fun e => by
      rw [e, upd_same] at hTn
      cases hTn
    have hTH : H s.heap.objs.size = none := by
      rw [upd_ne hTS] at hTn
      exact hTn
    have new : ObjOk X.prog X.w (upd (upd H S (.lst (ts.map V.ref))) s.heap.objs.size (.tup [xs[i], ys[i]])) h' s.heap.objs.size (.tup [xs[i], ys[i]]) :=
      ⟨by show 2 ≤ sizeLine; decide, [u, u2], .cons ru (.cons ru2 .nil), ⟨_, hT, rfl, _, rfl⟩⟩
    have I1 : Inv X pins σ (upd (upd H S (.lst (ts.map V.ref))) s.heap.objs.size (.tup [xs[i], ys[i]])) { s with heap := h' } :=
      I.turnedNew (t' := s.toks) (ch := [z, TI, TO, i1, i2]) (fun c o hb q => hk' c o (fun q' => hb (by simp [q'])) (fun q' => hb (by simp [q'])) (fun q' => hb (by simp [q'])) (fun q' => hb (by simp [q'])) q) fp (Nat.le_refl _) new
    rw [upd_swap hTS.symm] at I1
    obtain ⟨zl, its, n, rl, hl, eS⟩ := I1.lstM upd_same
    have hlen : ts.length = i := by
      have q := nt.len
      rw [List.length_take, List.length_zip] at q
      omega
    have hil : its.length = i := by rw [← hl, List.length_map, hlen]
    have I2 := I1.lset (t' := s.toks) (f := (·.push (Value.ref s.heap.objs.size))) (its' := its ++ [Value.ref s.heap.objs.size]) (ys := (ts ++ [s.heap.objs.size]).map V.ref) upd_same eS (by simp) (by rw [List.map_append]; exact rl.append (.cons rfl .nil)) (by rw [List.length_map, List.length_append, hlen]; show i + 1 ≤ sizeLine; omega)
    rw [upd_upd] at I2
    show wpAny _ A.in1 (updateSeq S (·.push (Value.ref s.heap.objs.size)) >>= _) _ _ _
    refine wpAny_bind ?_
    have hle : its.toArray.size ≤ sizeLine := by rw [List.size_toArray]; omega
    refine wpAny_updateSeq eS rfl (wpAny_pure ⟨plainId_quiet F.plain_extend_loop _, ih (i + 1) _ (ts ++ [s.heap.objs.size]) (upd H s.heap.objs.size (.tup [xs[i], ys[i]])) (by omega) (by omega) (st'.keep S ⟨_, eS, rfl⟩ (fun b o hb e => (Heap.get?_update_other _ _ (Ne.symm hb)).trans e) fun o e => ⟨_, Heap.get?_update_self _ eS rfl⟩) ?_ ?_ I2 (fun b hb => ?_) hSn (fun c hc => ?_)⟩)
      (by first | exact hle | (show its.toArray.size < sizeLine; rw [List.size_toArray]; omega)) (by show (its.toArray.push _).size ≤ sizeLine + 1; rw [Array.size_push, List.size_toArray]; omega)
    · have e : (xs.zip ys).take (i + 1) = (xs.zip ys).take i ++ [(xs[i], ys[i])] := by
        have hi' : i < (xs.zip ys).length := by rw [List.length_zip]; omega
        rw [List.take_succ_eq_append_getElem hi', List.getElem_zip]
      rw [e]
      exact .snoc nt hTH
    · rw [upd_ne hTS.symm]
      exact hHS
    · obtain ⟨f0, f1⟩ := fp b hb
      have hbS : b ≠ S := fun e => hSn (by rw [← e]; exact hb)
      refine ⟨?_, f1⟩
      rw [upd_ne hbS] at f0 ⊢
      rw [upd_ne (Nat.ne_of_lt (hlt b hb))]
      exact f0
    · have q := hlt c hc
      have e := Heap.size_update h' S (Obj.mapSeq (·.push (Value.ref s.heap.objs.size)))
      show c < (h'.update S (Obj.mapSeq (·.push (Value.ref s.heap.objs.size)))).objs.size
      rw [e, hsz]
      exact Nat.lt_succ_of_lt q
theorem nolen_zip : typeLookup (.type "zip") "__len__" = pure none := by rw [typeLookup_type, builtinLookup_eq_fast]; kernel_rfl
theorem nohint_zip : typeLookup (.type "zip") "__length_hint__" = pure none := by rw [typeLookup_type, builtinLookup_eq_fast]; kernel_rfl
/-- list(z), z a new zip of two tuples -/
theorem list_of_zip {z TI TO i1 i2 l1 l2 : Addr} {us ws : List Value} {xs ys : List V} {s : Shared} {Hk : Hp} {Q : VK} (hh : X.A.handled = none) (D : ZipApart z TI TO i1 i2 l1 l2) (rx : Vals xs us) (ry : Vals ys ws) (hz : xs.length ≤ sizeLine)
    (st : ZSt s.heap z TI TO i1 i2 l1 l2 us.toArray ws.toArray 0) (hzip : IsZip s.heap z TI TO .none) (I : Inv X pins σ Hk s) (fp : ∀ b ∈ [z, TI, TO, i1, i2], FpOk X pins Hk b) (hlt : ∀ c ∈ [z, TI, TO, i1, i2], c < s.heap.objs.size)
    (hQ : ∀ ts H' l, NewT Hk (xs.zip ys) ts H' → H' l = none → Q (.ref l) (upd H' l (.lst (ts.map V.ref)))) : wpAny (model X.prog X.w) X.A (call (.type "list") [.ref z]) (EP X pins σ Q) X.xe s := by
  have hSn : s.heap.objs.size ∉ [z, TI, TO, i1, i2] := fun hm => Nat.lt_irrefl _ (hlt _ hm)
  have hSz : s.heap.objs.size ≠ z := fun e => hSn (by simp [e])
  have hHk : Hk s.heap.objs.size = none := I.hok.fresh (Nat.le_refl _)
  refine callType_codes (Q₁ := fun obj s₁ => obj = .ref s.heap.objs.size ∧ s₁ = { s with heap := s.heap.push { cls := .type "list", data := .seq #[] } }) F.called_list (F.typeCall_list_1 _) F.entry_list_init
    (code_list_new _ ⟨rfl, rfl⟩) fun obj s₁ h₁ => ?_
  obtain ⟨rfl, rfl⟩ := h₁
  have hS : (s.heap.push { cls := .type "list", data := .seq #[] }).get? s.heap.objs.size = some { cls := .type "list", data := .seq #[] } := Heap.get?_push_size _ rfl
  have I1 : Inv X pins σ (upd Hk s.heap.objs.size (.lst [])) { s with heap := s.heap.push { cls := .type "list", data := .seq #[] } } := I.laid (t' := s.toks) (o := .lst []) (fun b ob q => Heap.get?_push_of_some _ q) (Nat.le_refl _) ⟨Nat.zero_le _, [], 0, .nil, hS⟩
  refine ⟨⟨_, hS, rfl⟩, F.args_list_init_2 _ _, ?_⟩
  show wpAny _ X.A.in1.in1 (do let old ← Builtin.List.listItems (.ref s.heap.objs.size); Builtin.List.listUpdate (.ref s.heap.objs.size) (fun _ => #[]); letGo old.toList.reverse; Builtin.List.listExtendWith (.ref s.heap.objs.size) (.ref z) .none) _ _ _
  refine wpAny_bind ?_
  unfold Builtin.List.listItems
  refine wpAny_bind (wpAny_seqItems hS rfl (wpAny_pure ?_))
  show wpAny _ X.A.in1.in1 (updateSeq s.heap.objs.size (fun _ => #[]) >>= fun _ => letGo (#[] : Array Value).toList.reverse >>= fun _ => Builtin.List.listExtendWith (.ref s.heap.objs.size) (.ref z) .none) _ _ _
  refine wpAny_bind (wpAny_updateSeq hS rfl ?_)
  have hS₂ := Heap.get?_update_self (Obj.mapSeq (fun _ => (#[] : Array Value))) hS rfl
  refine wpAny_bind (wpAny_letGo ?_)
  unfold Builtin.List.listExtendWith
  have hzp : ((s.heap.push { cls := .type "list", data := .seq #[] }).update s.heap.objs.size (Obj.mapSeq (fun _ => (#[] : Array Value)))).get? z = some _ := (Heap.get?_update_other _ _ hSz).trans (Heap.get?_push_of_some _ hzip)
  have hT : Shared.TypeIs { s with heap := (s.heap.push { cls := .type "list", data := .seq #[] }).update s.heap.objs.size (Obj.mapSeq (fun _ => (#[] : Array Value))) } (.ref z) "zip" := ⟨_, hzp, rfl⟩
  refine wpAny_bind (wpAny_typeOf hT ?_)
  have h1 : Builtin.List.listSameRef (.ref s.heap.objs.size) (.ref z) = false := by simp [Builtin.List.listSameRef, hSz]
  have h2 : (Value.type "zip" == Value.type "list") = false := by decide
  have h3 : (Value.type "zip" == Value.type "tuple") = false := by decide
  simp only [h1, h2, h3, Bool.or_false, Bool.false_eq_true, if_false]
  refine wpAny_bind (wpAny_pyIter_zip hzp ?_)
  refine wpAny_bind (wpAny_holding ?_)
  unfold Builtin.List.listLengthHint
  refine wpAny_bind (wpAny_specialOf hT nolen_zip ?_)
  show wpAny _ X.A.in1.in1 (specialOf (Value.ref z) (Str.ofString "__length_hint__") >>= _) _ _ _
  refine wpAny_bind (wpAny_specialOf hT nohint_zip ?_)
  refine wpAny_pure ?_
  show wpAny _ X.A.in1.in1 (rule "list.extend.makes-room" >>= fun _ => Builtin.List.listTouch (.ref s.heap.objs.size) >>= fun _ =>
    again (.builtin "list.extend.loop" ⟨[.ref s.heap.objs.size, .ref z, .none], []⟩)) _ _ _
  refine wpAny_bind (wpAny_rule ?_)
  refine wpAny_bind ?_
  show wpAny _ X.A.in1.in1 (updateSeq s.heap.objs.size (·.push .none) >>= fun _ => updateSeq s.heap.objs.size (·.pop)) _ _ _
  refine wpAny_bind (wpAny_updateSeq hS₂ rfl ?_)
  have hS₃ := Heap.get?_update_self (Obj.mapSeq (·.push Value.none)) hS₂ rfl
  refine wpAny_updateSeq (hz := by seq_fits) hS₃ rfl ?_
  have hS₄ := Heap.get?_update_self (Obj.mapSeq (·.pop)) hS₃ rfl
  have I2 : Inv X pins σ (upd (upd Hk s.heap.objs.size (.lst [])) s.heap.objs.size (.lst [])) _ := I1.write (t' := s.toks) (x := s.heap.objs.size) (e := s.heap.objs.size) (by rw [upd_same]; exact trivial) (.inl rfl)
    (fun b u hb hu => (Heap.get?_update_other _ _ (Ne.symm hb)).trans ((Heap.get?_update_other _ _ (Ne.symm hb)).trans ((Heap.get?_update_other _ _ (Ne.symm hb)).trans hu))) ⟨_, hS₄⟩ ⟨Nat.zero_le _, [], _, .nil, hS₄⟩
  rw [upd_upd] at I2
  refine wpAny_pure ⟨plainId_quiet F.plain_extend_loop _, zip_loop (A := X.A.in1) hh D rx ry .none Hk hHk hz (fun ts H' s' nt hn I' => ⟨rfl, .ref s.heap.objs.size, _, I', rfl, hQ ts H' _ nt hn⟩) _ 0 _ [] Hk rfl (Nat.zero_le _) ?_ (by simpa using NewT.nil) hHk I2 (fun b hb => ?_) hSn (fun c hc => ?_)⟩
  · refine (st.mono (h' := s.heap.push { cls := .type "list", data := .seq #[] }) fun b o e => Heap.get?_push_of_some _ e).keep s.heap.objs.size ⟨_, hS, rfl⟩ (fun b o hb e => ?_) fun o e => ⟨_, hS₄⟩
    exact (Heap.get?_update_other _ _ (Ne.symm hb)).trans ((Heap.get?_update_other _ _ (Ne.symm hb)).trans ((Heap.get?_update_other _ _ (Ne.symm hb)).trans e))
  · obtain ⟨f0, f1⟩ := fp b hb
    refine ⟨?_, f1⟩
    rw [upd_ne (fun e => hSn (by rw [← e]; exact hb))]
    exact f0
  · have e4 := (Heap.size_update _ s.heap.objs.size (Obj.mapSeq (·.pop))).trans ((Heap.size_update _ s.heap.objs.size (Obj.mapSeq (·.push Value.none))).trans ((Heap.size_update (s.heap.push { cls := .type "list", data := .seq #[] }) s.heap.objs.size (Obj.mapSeq (fun _ => (#[] : Array Value)))).trans (Heap.size_push _ _)))
    exact Nat.lt_of_lt_of_eq (Nat.lt_succ_of_lt (hlt c hc)) e4.symm
def tListZip (K : PySem.W.Frag) (ta : TA) : TE := fun σ H Q => ta σ H fun vs H1 => ∃ a b xs ys, vs = [.ref a, .ref b] ∧ SqT K H1 a xs ∧ SqT K H1 b ys ∧ ∀ ts H' l, NewT H1 (xs.zip ys) ts H' → H' l = none → Q (.ref l) (upd H' l (.lst (ts.map V.ref)))
theorem pe_listZip {e e2 : Expr} {ta : TA} {p p2 pos pos2 : Pos} (hc : X.calm = true) (hg : Gl X "list") (hm : X.mg "list" = none) (hg2 : Gl X "zip") (hm2 : X.mg "zip" = none) (ha : PA X [e, e2] ta)
    (hs2 : starEach [.Call (.Name "zip" p2) [e, e2] [] pos2] X.env = (false, eval (.Call (.Name "zip" p2) [e, e2] [] pos2) X.env) :: starEach [] X.env := by rfl)
    (hs : starEach [e, e2] X.env = (false, eval e X.env) :: starEach [e2] X.env := by rfl) (hpl : (backTo pos2 (starEach [e2] X.env)).any (·.1) = false := by rfl) :
    PE X (.Call (.Name "list" p) [.Call (.Name "zip" p2) [e, e2] [] pos2] [] pos) (tListZip X.K ta) := by
  refine ⟨fun pins s σ H Q I h => ?_⟩
  refine Call_ (ld_blt I hg hm boot_list (PyProof.Rows.callWith_type1 (args_cons (Call_ (ld_blt I hg2 hm2 PyProof.Rows.boot_zip (PyProof.Rows.callWith_type1 (thn (ha.run pos2 pins s σ H _ I h) fun us s1 ⟨vs, H1, I1, r1, q1⟩ => ?_) hs hpl))) hs2) hs2 rfl))
  obtain ⟨a, b, xs, ys, ex, hqx, hqy, q⟩ := q1
  subst ex
  cases r1 with
  | cons r rr =>
    cases rr with
    | cons r' rr =>
      cases rr
      cases r
      cases r'
      obtain ⟨its, rv, p1, hz⟩ := I1.tuple hqx
      obtain ⟨its2, rv2, p2, _⟩ := I1.tuple hqy
      obtain ⟨o1, ho1, _⟩ := id p1
      obtain ⟨o2, ho2, _⟩ := id p2
      refine RZ.call_zipT (show s1.heap.IsTuple a its.toArray from p1) (show s1.heap.IsTuple b its2.toArray from p2) fun h' hz' hTI hTO h1 h2 hsz hk => args_nil ?_
      have D := PySem.W.ktu_apart s1.heap.objs.size a b (Heap.lt_size ho1) (Heap.lt_size ho2)
      have I2 : Inv X pins σ H1 { s1 with heap := h' } := I1.kept (t' := s1.toks) hk
      have five : ∀ c, c ∈ [s1.heap.objs.size + 4, s1.heap.objs.size + 2, s1.heap.objs.size + 3, s1.heap.objs.size, s1.heap.objs.size + 1] → s1.heap.objs.size ≤ c ∧ c < s1.heap.objs.size + 5 := fun c hcm => by
        have e' : c = s1.heap.objs.size + 4 ∨ c = s1.heap.objs.size + 2 ∨ c = s1.heap.objs.size + 3 ∨ c = s1.heap.objs.size ∨ c = s1.heap.objs.size + 1 := by simpa using hcm
        have hn : ∀ (n c : Nat), (c = n + 4 ∨ c = n + 2 ∨ c = n + 3 ∨ c = n ∨ c = n + 1) → n ≤ c ∧ c < n + 5 := by omega
        exact hn _ _ e'
      exact list_of_zip (s := { s1 with heap := h' }) (I1.ok.hd hc) D rv rv2 hz
        ⟨.inl ⟨hz', _, _, hTO⟩, hTI, h1, h2, (show s1.heap.IsTuple a its.toArray from p1).at fun o e => hk _ o e, (show s1.heap.IsTuple b its2.toArray from p2).at fun o e => hk _ o e⟩ hz' I2
        (fun c hcm => I1.fpOk (five c hcm).1 (I1.hok.fresh (five c hcm).1)) (fun c hcm => by
          show c < h'.objs.size
          rw [hsz]
          exact (five c hcm).2) q
end
end Wk
namespace Wk
open PySem L2 Evl
section
variable {K : PySem.W.Frag} {ρ : Rho} {M : Mm} {Φ : Dt → Mm → Prop} {ta : TA}
theorem RpAll.snoc_inv {H : Hp} {v : V} : ∀ {vs : List V} {ds : List Dt}, RpAll K H (vs ++ [v]) ds → ∃ es d, ds = es ++ [d] ∧ RpAll K H vs es ∧ Rp K H v d
  | [], _, .cons h .nil => ⟨[], _, rfl, .nil, h⟩
  | _ :: vs, _, .cons h r => by
    obtain ⟨es, d, rfl, h1, h2⟩ := RpAll.snoc_inv (vs := vs) r
    exact ⟨_ :: es, d, rfl, .cons h h1, h2⟩
abbrev pairD (xs ys : List Dt) : List Dt := List.zipWith (fun a b => Dt.tup [a, b]) xs ys
theorem newT_ok {B Hh H1 H' : Hp} {ps : List (V × V)} {ts : List Addr} (n : NewT H1 ps ts H') (k : Ok K B Hh H1 M) : ∀ {ds es : List Dt}, RpAll K Hh (ps.map (·.1)) ds → RpAll K Hh (ps.map (·.2)) es → ∃ Hh', Ok K B Hh' H' M ∧ Ex Hh Hh' ∧ RpAll K Hh' (ts.map V.ref) (pairD ds es) := by
  induction n with
  | nil =>
    intro ds es r1 r2
    cases r1
    cases r2
    exact ⟨Hh, k, Ex.refl _, .nil⟩
  | @snoc ps ts H1 T x y n h ih =>
    intro ds es r1 r2
    rw [List.map_append] at r1 r2
    obtain ⟨ds, d, rfl, r1, q1⟩ := r1.snoc_inv
    obtain ⟨es, e, rfl, r2, q2⟩ := r2.snoc_inv
    obtain ⟨Hh', k', e', r'⟩ := ih r1 r2
    have e2 := Ex.new (o := .tup [x, y]) (fresh_back k'.h h)
    refine ⟨_, k'.grow h, e'.trans e2, ?_⟩
    have hl : ds.length = es.length := by rw [← r1.length, ← r2.length, List.length_map, List.length_map]
    rw [List.map_append, show pairD (ds ++ [d]) (es ++ [e]) = pairD ds es ++ [.tup [d, e]] from by unfold pairD; rw [List.zipWith_append hl] <;> rfl]
    exact (r'.mono e2).append (.one (.tup (st_of upd_same) ((RpAll.cons q1 (.one q2)).mono (e'.trans e2))))
theorem ex_listZip (h : AX K ta ρ M (fun ds M1 => ∃ xs ys, ds = [.tup xs, .tup ys] ∧ xs.length = ys.length ∧ Φ (.lst (pairD xs ys)) M1)) : EX K (tListZip K ta) ρ M Φ := fun B H H1 σ o s Q q =>
  h B H H1 σ o s _ fun vs ds M' H' H2 z k e r => by
    obtain ⟨xs, ys, rfl, hl, z⟩ := z
    cases r with
    | cons ra rr =>
      cases rr with
      | cons rb rr =>
        cases rr
        obtain ⟨a, us, rfl, h1, r1⟩ := ra.tup_inv
        obtain ⟨b, ws, rfl, h2, r2⟩ := rb.tup_inv
        refine ⟨a, b, us, ws, rfl, ex_t k.h h1, ex_t k.h h2, fun ts Hn l n hn => ?_⟩
        have hle : us.length = ws.length := by rw [r1.length, r2.length, hl]
        obtain ⟨Hh, k2, e2, r3⟩ := newT_ok n k (by rw [List.map_fst_zip (by omega)]; exact r1) (by rw [List.map_snd_zip (by omega)]; exact r2)
        have e3 := Ex.new (o := .lst (ts.map V.ref)) (fresh_back k2.h hn)
        exact q _ _ M' _ _ z (k2.grow hn) (e.trans (e2.trans e3)) (.lst upd_same (r3.mono e3))
end
end Wk
namespace Wk
open PySem PySem.Spec PyProof.Rows L2
def tMakeS (K : PySem.W.Frag) (C : Addr) (sp : Sp) (E : XK) (te : TE) : TE := fun σ H Q => te σ H fun y H1 => ∃ a xs, y = V.ref a ∧ (SqT K H1 a xs ∨ SqL K H1 a xs) ∧ ∀ x dx, H1 x = Option.none → H1 dx = Option.none → dx ≠ x →
  sp (V.ref x :: xs) (upd (upd H1 dx (.own x)) x (.ins C dx [])) (fun v H2 => v = .non ∧ Q (.ref x) H2) E
section
variable {X : Cx} {CX : CXT} {k : Nat} {f C : Addr} {sp : Sp} {E : XK} {x : Str} {e fe : Expr} {te tf : TE} {p pos sp_ : Pos}
/-- c(*e), c a name that holds the class -/
def tMakeV (K : PySem.W.Frag) (C : Addr) (sp : Sp) (E : XK) (tf te : TE) : TE := fun σ H Q => tf σ H fun c H0 => c = .ref C ∧ tMakeS K C sp E te σ H0 Q
theorem pe_makeV (M : Mk X.K C f) (F : FnR X.prog X.w X.K X.mg X.base CX k f sp) (hr : Room (k + 1) X.A) (hx : Passes CX X E) (hf : PE X fe tf) (he : PE X e te)
    (hst : starEach [.Starred e sp_] X.env = [(true, eval e X.env)] := by rfl)
    (ht : eval (.Call fe [.Starred e sp_] [] pos) X.env = (do callWith pos (← eval fe X.env) [] (backTo pos (starEach [.Starred e sp_] X.env)) (backToKw pos (keywordEach [] X.env))) := by rfl) : PE X (.Call fe [.Starred e sp_] [] pos) (tMakeV X.K C sp E tf te) := by
  refine ⟨fun pins s σ H Q I h => ?_⟩
  refine Call_ (thn (hf.run pins s σ H _ I h) fun u s1 ⟨y, H1, I1, ry, ey, q⟩ => ?_) ht
  subst ey
  obtain rfl : u = Value.ref C := ry
  refine PySem.W.callWith_S (h₀ := X.base) I.ok.mod.kin M.kp (thn (he.run pins s1 σ H1 _ I1 q) fun v s1 ⟨y, H1, I1, ry, a, xs, ey, hxs, q⟩ => ?_) hst
  subst ey
  obtain rfl : v = Value.ref a := ry
  exact StX.star_any I1 hxs fun us s2 I2 rv => ⟨I2.kIn, StX.run_makeR M F hr hx I2 rv q⟩
end
section
variable {X : Cx} {CX : CXT} {k : Nat} {f C p g : Addr} {mc : Value} {sp : Sp} {E : XK} {x m : Str} {e o : Expr} {es : List Expr} {ta : TE} {t : TA} {pos apos : Pos}
theorem pe_methR {pl : Sem Bool} (he : PE X o ta) (c : Cls X.K C) (hm : Meth X.K C m f) (F : FnR X.prog X.w X.K X.mg X.base CX k f sp) (hr : Room k X.A) (hx : Passes CX X E) (ha : PA X (e :: es) t)
    (hst : starEach (e :: es) X.env = (false, eval e X.env) :: starEach es X.env := by rfl) (hpl : (backTo pos (starEach es X.env)).any (·.1) = false := by rfl)
    (ht : eval (.Call (.Attribute o m apos) (e :: es) [] pos) X.env = (do
      let ov ← eval o X.env
      standAt apos.atName
      let (f, first) ← holding [ov] (getMethod ov m pl)
      callWith pos f first (backTo pos (starEach (e :: es) X.env)) (backToKw pos (keywordEach [] X.env))) := by rfl) :
    PE X (.Call (.Attribute o m apos) (e :: es) [] pos) (tMeth C m sp [] E ta t) := by
  refine ⟨fun pins s σ H Q I h => ?_⟩
  refine PySem.W.methodCall_KW (pl := pl) (thn (he.run pins s σ H _ I h) fun u s1 ⟨x, H1, I1, rx, a, dx, fs, ex, ea, l, q⟩ => ?_) ht
  subst ex
  obtain rfl : u = Value.ref a := rx
  refine getmeth_ok I1 ea c hm l ?_
  refine PySem.W.callWith_K (first := [.ref a]) (h₀ := X.base) I.ok.mod.kin hm.kp (thn (ha.run pos pins s1 σ H1 _ I1 q) fun us s2 ⟨vs, H2, I2, r, q2⟩ => ⟨I2.kIn, ?_⟩) hst hpl
  replace q2 : sp (V.ref a :: (vs ++ [])) H2 Q E := q2
  rw [List.append_nil] at q2
  exact wpAny_call (run_fnR (us := .ref a :: us) (vs := .ref a :: vs) F hr hx I2 (.cons rfl r) q2)
end
structure OwnEq (K : PySem.W.Frag) (C f : Addr) : Prop where
  at_ : PySem.W.findIn K (.ref C) "__eq__" = some (some (.ref f))
  fn : PySem.W.isFn K (.ref f) = true
structure OwnNe (K : PySem.W.Frag) (C : Addr) : Prop where
  ne : PySem.W.findIn K (.ref C) "__ne__" = some (some (.builtin "object.__ne__"))
  ob : PySem.W.mroIn K C (.type "object") = some true
section
variable {X : Cx} {CX : CXT} {k : Nat} {C f : Addr} {sp : Sp} {E : XK} {pins : List (Addr × Obj)} {σ : L2.St} {H : Hp} {s : Shared} {A : Around} {Q : VK}
theorem eq_run {a b : Addr} {E' : Value → Shared → Prop} (F : FnR X.prog X.w X.K X.mg X.base CX k f sp) (hr : Room k A) (hfr : A.frames = X.A.frames) (hx : Passes CX X E) (I : Inv X pins σ H s) (h : sp [.ref a, .ref b] H Q E) (hE : ∀ e s', X.xe e s' → E' e s') :
    wpAny (model X.prog X.w) A (call (.ref f) [.ref a, .ref b]) (EP X pins σ Q) E' s := by
  have e0 : Env0 X.prog X.w X.K X.mg X.base A X.stack s H := by
    have e := I.env0
    exact ⟨by rw [hfr]; exact e.frames, e.mod, e.bs, e.bsz, e.funs, e.frf, e.hok, e.bare⟩
  refine wpAny_call (codeAny_mono (F A X.stack s H [.ref a, .ref b] [.ref a, .ref b] Q E hr e0 (.cons rfl (.cons rfl .nil)) h) fun r s' hq => ?_)
  cases r with
  | error e => exact hE _ _ (hx pins σ H s e s' I hq)
  | ok fl =>
    cases fl with
    | ret u => exact I.after hq
    | next => exact False.elim hq
    | brk => exact False.elim hq
    | cont => exact False.elim hq
/-- len(o) by an own __len__ -/
structure OwnLen (K : PySem.W.Frag) (C f : Addr) : Prop where
  at_ : PySem.W.findIn K (.ref C) "__len__" = some (some (.ref f))
  fn : PySem.W.isFn K (.ref f) = true
def rLenO (C : Addr) (sp : Sp) (E : XK) : List V → Hp → VK → Prop := fun xs H Q => ∃ a dx fs, xs = [.ref a] ∧ H a = some (.ins C dx fs) ∧ sp [.ref a] H (fun v H' => ∃ n, v = .int n ∧ 0 ≤ n ∧ n < 2 ^ 63 ∧ Q (.int n) H') E
theorem call_lenO (F : FnR X.prog X.w X.K X.mg X.base CX k f sp) (hr : Room (k + 1) X.A) (hx : Passes CX X E) (o : OwnLen X.K C f) : CallR X (.builtin "len") (rLenO C sp E) := by
  intro pins s σ H xs us Q I r h
  obtain ⟨a, dx, fs, rfl, ha, hq⟩ := h
  obtain ⟨u, rfl, ru⟩ := vals1 r
  cases ru
  obtain ⟨mA, J, _⟩ := ins_get I.hok ha
  obtain ⟨od, J, _⟩ := J.look
  obtain ⟨m, hF⟩ := I.fr
  refine PySem.W.len_K hF I.ok.mod.kin J o.at_ o.fn ?_
  have e0 : Env0 X.prog X.w X.K X.mg X.base X.A.in1 X.stack s H := I.env0.in1
  refine wpAny_call (codeAny_mono (F X.A.in1 X.stack s H [.ref a] [.ref a] _ E hr.in1 e0 (.cons rfl .nil) hq) fun r s' hq => ?_)
  cases r with
  | error e => exact hx pins σ H s e s' I hq
  | ok fl =>
    cases fl with
    | ret u =>
      obtain ⟨v, H1, I1, rv, n, ev, h0, h1, q⟩ := I.after hq
      subst ev
      obtain ⟨t, rfl⟩ := rv
      exact ⟨⟨h0, h1⟩, .int n, H1, I1.tok _, ⟨_, rfl⟩, q⟩
    | next => exact False.elim hq
    | brk => exact False.elim hq
    | cont => exact False.elim hq
end
end Wk
namespace Wk
open PySem L2 Evl
section
variable {K : PySem.W.Frag} {ρ : Rho} {M : Mm} {Φ : Dt → Mm → Prop} {ta te tf tv : TE} {t : TA} {E : XK} {C : Addr} {α : Type} {pre : α → List Dt → Mm → Prop} {post : α → Mm → Dt → Mm → Prop}
theorem src_or {H : Hp} {p : Addr} {ys : List V} (h : SqL K H p ys ∨ SqT K H p ys) : SqT K H p ys ∨ SqL K H p ys := h.symm
/-- C(*e): a new instance, a cell, then __init__ -/
theorem ex_makeS (h : EX K te ρ M (fun d M1 => ∃ xs G, WSrc M1 d xs G ∧ ∀ x, M1 x = none → ∃ y, pre y (.raw (.ref x) :: xs) (put M1 x (.ins C [])) ∧ ∀ d M2, post y (put M1 x (.ins C [])) d M2 → d = .non ∧ Φ (.raw (.ref x)) M2)) :
    EX K (tMakeS K C (SpD K pre post) E te) ρ M Φ := fun B H H1 σ o s Q q =>
  h B H H1 σ o s _ fun v d M' H' H2 z k e r => by
    obtain ⟨xs, G, hs, z⟩ := z
    obtain ⟨a, us, rfl, h1, r1⟩ := lst_src hs k r
    refine ⟨a, us, rfl, src_or h1, fun x dx hx hdx ne => ?_⟩
    obtain ⟨y, z1, z2⟩ := z x (k.noMem hx)
    have k1 := k.grow (o := .own x) hdx
    have e1 := Ex.new (o := .own x) (fresh_back k.h hdx)
    have hx1 : upd H2 dx (.own x) x = none := by
      rw [upd_ne ne.symm]
      exact hx
    have k2 := k1.cell (o := .ins C dx []) (c := .ins C []) hx1 ⟨dx, [], upd_same, .nil⟩
    exact ⟨y, B, _, _, _, k2, .cons (.raw _) (r1.mono e1), z1, fun v d M3 H5 H6 hp k3 e3 r3 => by
      obtain ⟨rfl, z3⟩ := z2 d M3 hp
      exact ⟨r3.non_inv, q _ _ _ _ _ z3 k3 (e.trans (e1.trans e3)) (.raw _)⟩⟩
theorem ex_makeV (h : EX K tf ρ M (fun c M0 => c = .raw (.ref C) ∧ EX K (tMakeS K C (SpD K pre post) E te) ρ M0 Φ)) : EX K (tMakeV K C (SpD K pre post) E tf te) ρ M Φ := fun B H H1 σ o s Q q =>
  h B H H1 σ o s _ fun v d M' H' H2 z k e r => by
    obtain ⟨rfl, z⟩ := z
    exact ⟨r.raw_inv, z B H' H2 σ k (s.mono e) Q fun v d M3 H3 H4 z3 k3 e3 r3 => q v d M3 H3 H4 z3 k3 (e.trans e3) r3⟩
theorem ex_cmeth (h : EX K ta ρ M (fun x M1 => x = .raw (.ref C) ∧ AX K t ρ M1 (fun ds M2 => ∃ y, pre y (.raw (.ref C) :: ds) M2 ∧ ∀ d M3, post y M2 d M3 → Φ d M3))) : EX K (ClX.tCMeth C (SpD K pre post) E ta t) ρ M Φ := fun B H H1 σ o s Q q =>
  h B H H1 σ o s _ fun v d M' H' H2 z k e r => by
    obtain ⟨rfl, z⟩ := z
    exact ⟨r.raw_inv, z B H' H2 σ k (s.mono e) _ fun vs ds M2 H3 H4 ⟨y, z1, z2⟩ k2 e2 r2 => ⟨y, B, H3, M2, _, k2, .cons (.raw _) r2, z1, fun v d M3 H5 H6 hp k3 e3 r3 => q v d M3 H5 H6 (z2 d M3 hp) k3 ((e.trans e2).trans e3) r3⟩⟩
theorem ex_cval {f : Str} {mc u : Value} {v : V} {d : Dt} (c : ClX.CRead K C mc) (cv : ClX.CVal K C mc f v u) (r : ∀ H, Rp K H v d) (h : EX K ta ρ M (fun x M1 => x = .raw (.ref C) ∧ Φ d M1)) : EX K (ClX.tCVal K ta f) ρ M Φ := fun B H H1 σ o s Q q =>
  h B H H1 σ o s _ fun w x M' H' H2 z k e rx => by
    obtain ⟨rfl, z⟩ := z
    exact ⟨C, mc, v, u, rx.raw_inv, c, cv, q v d M' H' H2 z k e (r _)⟩
theorem cx_lenO {fs : List (Str × Dt)} (h : ∃ z, pre z [.obj C fs] M ∧ ∀ d M', post z M d M' → ∃ n, d = .int n ∧ 0 ≤ n ∧ n < 2 ^ 63 ∧ Φ (.int n) M') : CX K (rLenO C (SpD K pre post) E) [.obj C fs] M Φ := fun B H H1 vs o r Q q => by
  obtain ⟨z, z1, z2⟩ := h
  cases r with
  | cons r rr =>
    cases rr
    obtain ⟨a, dx, us, rfl, h1, r1⟩ := r.obj_inv
    refine ⟨a, dx, us, rfl, o.h _ _ h1, z, B, H, M, _, o, .one r, z1, fun v d M3 H5 H6 hp k3 e3 r3 => ?_⟩
    obtain ⟨n, rfl, l1, l2, z3⟩ := z2 d M3 hp
    exact ⟨n, r3.int_inv, l1, l2, q _ _ _ _ _ z3 k3 e3 (.int _)⟩
def putD (f : Str) (d : Dt) : List (Str × Dt) → List (Str × Dt)
  | [] => [(f, d)]
  | (g, x) :: r => if g = f then (g, d) :: r else (g, x) :: putD f d r
theorem RpFs.put {H : Hp} {f : Str} {v : V} {d : Dt} (h : Rp K H v d) : ∀ {vs : List (Str × V)} {ds : List (Str × Dt)}, RpFs K H vs ds → RpFs K H (putF f v vs) (putD f d ds)
  | _, _, .nil => .cons h .nil
  | _, _, .cons (f := g) (vs := vs) (ds := ds) (v := v0) (d := d0) q r => by
    show RpFs K H (if g = f then (g, v) :: vs else (g, v0) :: putF f v vs) (if g = f then (g, d) :: ds else (g, d0) :: putD f d ds)
    by_cases e : g = f
    · rw [if_pos e, if_pos e]
      exact .cons h r
    · rw [if_neg e, if_neg e]
      exact .cons q (RpFs.put h r)
theorem sx_fld {f : Str} {E : Es} (h : EX K tv ρ M (fun y M1 => EX K ta ρ M1 (fun x M2 => ∃ a C fs, x = .raw (.ref a) ∧ M2 a = some (.ins C fs) ∧ Cls K C ∧ NoAttr K C f ∧ fs.length < 1000 ∧ E.nx ρ (put M2 a (.ins C (putD f y fs)))))) : SX K (sFld K ta tv f) ρ M E := fun B H H1 σ D o s r =>
  h B H H1 σ o s _ fun v y M1 H2 H3 z k e rv => z B H2 H3 σ k (s.mono e) _ fun u x M2 H4 H5 z2 k2 e2 ru => by
    obtain ⟨a, C, fs, rfl, hm, cl, na, hl, z3⟩ := z2
    obtain ⟨m1, m2, dx, us, h1, r1⟩ := k2.m a _ hm
    exact ⟨a, C, dx, us, ru.raw_inv, h1, cl, na, by rw [r1.length]; exact hl, r.nx _ _ _ H4 _ z3 (k2.write hm ⟨dx, _, upd_same, RpFs.put (rv.mono e2) r1⟩) (s.mono (e.trans e2)) (e.trans e2)⟩
structure IsC (K : PySem.W.Frag) (C : Addr) : Prop where
  cl : Cls K C
  ha : PySem.W.findIn K (.ref C) "__class__" = some (some (.builtin "object.__class__"))
  hn : PySem.W.specialIn K (.builtin "object.__class__") "__get__" = some (some (.builtin "getset_descriptor.__get__"))
  htk : PySem.W.takesIn K (.builtin "object.__class__") = some true
  hm : PySem.W.mroIn K C (.type "object") = some true
theorem cx_isi {D : Addr} {b : Bool} {fs : List (Str × Dt)} (c : IsC K C) (e : PySem.W.kitOne K (.ref C) (.ref D) = some b) (k : Φ (.bl b) M) : CX K (rIsi K) [.obj C fs, .raw (.ref D)] M Φ := fun B H H1 vs o r Q q => by
  cases r with
  | cons r rr =>
    cases rr with
    | cons r2 rr =>
      cases rr
      obtain ⟨a, dx, us, rfl, h1, r1⟩ := r.obj_inv
      obtain rfl := r2.raw_inv
      exact ⟨_, _, .ref C, .ref D, b, rfl, .own D, .base (.ins (o.h _ _ h1) c.cl c.ha c.hn c.htk c.hm), e, q _ _ _ _ _ k o (Ex.refl H) (.bl b)⟩
end
section
variable (P : Program) (w : World) (K : PySem.W.Frag) (mg : Str → Option Value) (base : Heap) (k : Nat) (C : Addr)
structure MetR (m : Str) (sp : Sp) : Prop where
  cl : Cls K C
  ex : ∃ f, Meth K C m f ∧ FnR P w K mg base CX0 k f sp
structure PrpR (m : Str) (sp : Sp) : Prop where
  cl : Cls K C
  ex : ∃ p g fd ps, PropOf K C m p g ∧ FnOk P w K mg base CX0 k g fd ps sp ∧ Binds K fd ps []
structure CmtR (m : Str) (sp : Sp) : Prop where
  ex : ∃ mc p g, ClX.CRead K C mc ∧ ClX.CMet K C mc m p g ∧ FnR P w K mg base CX0 k g sp
structure MkR (x : Str) (sp : Sp) : Prop where
  gl : mg x = some (.ref C)
  ex : ∃ f, Mk K C f ∧ FnR P w K mg base CX0 k f sp
structure EqR (sp : Sp) : Prop where
  ex : ∃ f, OwnEq K C f ∧ OwnNe K C ∧ FnR P w K mg base CX0 k f sp
structure LenR (sp : Sp) : Prop where
  ex : ∃ f, OwnLen K C f ∧ FnR P w K mg base CX0 k f sp
end
section
variable {X : Cx} {k j : Nat} {C : Addr} {x m : Str} {sp : Sp} {p pos apos sp_ : Pos} {e o fe : Expr} {es : List Expr} {ta te tf : TE} {t : TA}
theorem pe_mR {pl : Sem Bool} (c : MetR X.prog X.w X.K X.mg X.base k C m sp) (hr : Room j X.A) (hk : k ≤ j) (he : PE X o ta) (ha : PA X (e :: es) t)
    (hst : starEach (e :: es) X.env = (false, eval e X.env) :: starEach es X.env := by rfl) (hpl : (backTo pos (starEach es X.env)).any (·.1) = false := by rfl)
    (ht : eval (.Call (.Attribute o m apos) (e :: es) [] pos) X.env = (do
      let ov ← eval o X.env
      standAt apos.atName
      let (f, first) ← holding [ov] (getMethod ov m pl)
      callWith pos f first (backTo pos (starEach (e :: es) X.env)) (backToKw pos (keywordEach [] X.env))) := by rfl) :
    PE X (.Call (.Attribute o m apos) (e :: es) [] pos) (tMeth C m sp [] E0 ta t) := by
  obtain ⟨f, hm, F⟩ := c.ex
  exact pe_methR he c.cl hm F (hr.mono hk) pass0 ha hst hpl ht
theorem pe_pR (c : PrpR X.prog X.w X.K X.mg X.base k C m sp) (hr : Room j X.A) (hk : k + 1 ≤ j) (he : PE X e te) (hab : attributeBase e m X.env (eval e X.env) = eval e X.env := by rfl) (hn : X.nox = X.nox := rfl) (hx : Passes CX0 X.nox E0 := by exact pass0) :
    PE X (.Attribute e m pos) (tProp C sp [] E0 te) := by
  obtain ⟨p, g, fd, ps, hp, F, hb⟩ := c.ex
  exact pe_prop he c.cl hp F (hr.mono hk) hb .nil hx hab
theorem pe_cmR {pl : Sem Bool} (c : CmtR X.prog X.w X.K X.mg X.base k C m sp) (hr : Room j X.A) (hk : k ≤ j) (he : PE X o ta) (ha : PA X (e :: es) t)
    (hst : starEach (e :: es) X.env = (false, eval e X.env) :: starEach es X.env := by rfl) (hpl : (backTo pos (starEach es X.env)).any (·.1) = false := by rfl)
    (ht : eval (.Call (.Attribute o m apos) (e :: es) [] pos) X.env = (do
      let ov ← eval o X.env
      standAt apos.atName
      let (f, first) ← holding [ov] (getMethod ov m pl)
      callWith pos f first (backTo pos (starEach (e :: es) X.env)) (backToKw pos (keywordEach [] X.env))) := by rfl) :
    PE X (.Call (.Attribute o m apos) (e :: es) [] pos) (ClX.tCMeth C sp E0 ta t) := by
  obtain ⟨mc, p, g, r, hm, F⟩ := c.ex
  exact ClX.pe_cmeth he r hm F (hr.mono hk) pass0 ha hst hpl ht
theorem pe_mkV (c : MkR X.prog X.w X.K X.mg X.base k C x sp) (hr : Room j X.A) (hk : k + 1 ≤ j) (hf : PE X fe tf) (he : PE X e te)
    (hst : starEach [.Starred e sp_] X.env = [(true, eval e X.env)] := by rfl)
    (ht : eval (.Call fe [.Starred e sp_] [] pos) X.env = (do callWith pos (← eval fe X.env) [] (backTo pos (starEach [.Starred e sp_] X.env)) (backToKw pos (keywordEach [] X.env))) := by rfl) : PE X (.Call fe [.Starred e sp_] [] pos) (tMakeV X.K C sp E0 tf te) := by
  obtain ⟨f, M, F⟩ := c.ex
  exact pe_makeV M F (hr.mono hk) pass0 hf he hst ht
theorem call_lenR (c : LenR X.prog X.w X.K X.mg X.base k C sp) (hr : Room j X.A) (hk : k + 1 ≤ j) : CallR X (.builtin "len") (rLenO C sp E0) := by
  obtain ⟨f, o, F⟩ := c.ex
  exact call_lenO F (hr.mono hk) pass0 o
end
/-- a def with *v behind n parameters: its promise of what it is called with -/
theorem starD {K : PySem.W.Frag} {α : Type} {pre pre' : α → List Dt → Mm → Prop} {post : α → Mm → Dt → Mm → Prop} {n : Nat} {vs : List V} {H1 : Hp} {Q : VK} {E : XK} (hp : ∀ x ds M, pre' x ds M → ∃ hd tl, ds = hd ++ tl ∧ hd.length = n ∧ tl.length ≤ sizeLine ∧ pre x (hd ++ [.tup tl]) M)
    (h : SpD K pre' post vs H1 Q E) : ∃ ws rest, vs = ws ++ rest ∧ ws.length = n ∧ rest.length ≤ sizeLine ∧ ∀ p, H1 p = Option.none → SpD K pre post (ws ++ [V.ref p]) (upd H1 p (.tup rest)) Q E := by
  obtain ⟨x, B, H, M, ds, o, r, hpre, q⟩ := h
  obtain ⟨hd, tl, rfl, h1, h2, h3⟩ := hp x ds M hpre
  refine ⟨vs.take n, vs.drop n, (List.take_append_drop n vs).symm, ?_, ?_, fun p hpn => ?_⟩
  · have e := r.length
    rw [List.length_append] at e
    rw [List.length_take]
    omega
  · have e := r.length
    rw [List.length_append] at e
    rw [List.length_drop]
    omega
  · have r1 := r.take n
    have r2 := r.drop n
    rw [List.take_left' h1] at r1
    rw [List.drop_left' h1] at r2
    have e1 := Ex.new (o := .tup (vs.drop n)) (fresh_back o.h hpn)
    exact ⟨x, B, _, M, _, o.grow hpn, (r1.mono e1).append (.one (.tup (st_of upd_same) (r2.mono e1))), h3, fun v d M' H' H2 z k e r => q v d M' H' H2 z k (e1.trans e) r⟩
end Wk
namespace Wk
open PySem PySem.Spec PyProof.Rows L2
section
variable {P : Program} {w : World} {K : PySem.W.Frag} {mg : Str → Option Value} {base : Heap} {k : Nat} {f D : Addr} {x qual : Str} {st : Stmt} {fd : FuncData} {N ps : List Str} {sp : Sp} {pv kw : Str} {dv : V} {du : Value}
/-- how such a def binds -/
def BindS (x qual : Str) (st : Stmt) (ps : List Str) (pv : Str) : Prop := ∀ (kV doc pm : Value) (an : Option Addr) (cdv ct : Value) (us rest : List Value), us.length = ps.length →
  bindArgs (PySem.W.fnOf x qual (defArgs st) (defBody st) (defScope st) .none kV doc pm an cdv ct) ⟨us ++ rest, []⟩ = (newTuple rest >>= fun t => pure (ps.zip us ++ [(pv, t)]))
theorem fun_star (F : Fun K x qual st f fd) (S : FnScope N (ps ++ [pv]) (defScope st)) (hb : BindS x qual st ps pv)
    (hbody : ∀ (cdv : Value) (A : Around) (outer : List Env) (s : Shared) (H : Hp) (vs : List V) (Q : VK) (E : XK), Room k (A.deeper (envOfC qual (defScope st) s.heap.objs.size f cdv)) → sp vs H Q E →
      ∃ t, PSs (cxOf CX0 P w K mg base N qual (defScope st) f cdv A outer s H E).nox (defBody st) t ∧ t { nx := fun _ H' => Q .non H', rt := Q } (start N vs) H) :
    FnR P w K mg base CX0 (k + 1) f (fun vs H Q E => ∃ ws rest, vs = ws ++ rest ∧ ws.length = ps.length ∧ rest.length ≤ sizeLine ∧ ∀ p, H p = Option.none → sp (ws ++ [V.ref p]) (upd H p (.tup rest)) Q E) := by
  obtain ⟨oc, od, kV, doc, pm, an, cdv, ct, osl, rfl, lk, hcd⟩ := F.ex
  exact StX.fn_star lk hcd S StX.cxUp_none (hb kV doc pm an cdv ct) fun A outer s H vs Q E hr hsp => by
    obtain ⟨t, h, q⟩ := hbody cdv A outer s H vs Q E hr hsp
    exact ⟨t, h.nox, q⟩
structure FunK (K : PySem.W.Frag) (x qual : Str) (st : Stmt) (D f : Addr) (fd : FuncData) : Prop where
  ex : ∃ (oc : Value) (od : Option Addr) (doc pm : Value) (an : Option Addr) (cdv ct : Value) (osl : Array (Option Value)),
    fd = PySem.W.fnOf x qual (defArgs st) (defBody st) (defScope st) .none (.ref D) doc pm an cdv ct ∧ K.lookup f = some ⟨oc, od, .func fd, osl⟩ ∧ PySem.W.codeIn K cdv qual = true
end
end Wk
namespace Wk
open PySem L2 Evl
/-- each point's next one -/
def rot {α : Type} (ps : List α) : List α := ps.drop 1 ++ ps.take 1
theorem rot_length {α : Type} (ps : List α) : (rot ps).length = ps.length := by
  unfold rot
  rw [List.length_append, List.length_drop, List.length_take]
  omega
theorem rot_map {α β : Type} (f : α → β) (ps : List α) : (rot ps).map f = rot (ps.map f) := by
  unfold rot
  rw [List.map_append, List.map_drop, List.map_take]
theorem cutD_length (xs : List Dt) (lo hi : Option Int) : (cutD xs lo hi).length ≤ xs.length := by
  unfold cutD
  rw [List.length_take, List.length_drop]
  omega
theorem sIx_one {n d : Nat} : HT.sIx n d (some 1) = min 1 n := by
  have h := HT.sIx_nat n d 1
  exact h
theorem sIx_none {n d : Nat} : HT.sIx n d none = d := rfl
theorem cutD_from1 (xs : List Dt) : cutD xs (some 1) none = xs.drop 1 := by
  unfold cutD
  rw [sIx_one, sIx_none]
  by_cases h : xs.length = 0
  · have e : xs = [] := List.length_eq_zero_iff.mp h
    subst e
    rfl
  · have e : min 1 xs.length = 1 := by omega
    rw [e, List.take_of_length_le (by rw [List.length_drop]; exact Nat.le_refl _)]
theorem cutD_to1 (xs : List Dt) : cutD xs none (some 1) = xs.take 1 := by
  unfold cutD
  rw [sIx_one, sIx_none, List.drop_zero, Nat.sub_zero]
  by_cases h : xs.length = 0
  · have e : xs = [] := List.length_eq_zero_iff.mp h
    subst e
    rfl
  · have e : min 1 xs.length = 1 := by omega
    rw [e]
theorem cutD_rot (xs : List Dt) : cutD xs (some 1) none ++ cutD xs none (some 1) = rot xs := by
  rw [cutD_from1, cutD_to1] <;> rfl
def addP (a b : Pt) : Pt := (a.1 + b.1, a.2 + b.2)
def subP (a b : Pt) : Pt := (a.1 - b.1, a.2 - b.2)
def ptD (ps : List Pt) (i : Nat) : Pt := ps.getD i (0, 0)
def nxt (n i : Nat) : Nat := (i + 1) % n
def prv (n i : Nat) : Nat := (i + n - 1) % n
def flip1 (ps : List Pt) (j : Nat) : List Pt := ps.set j (subP (addP (ptD ps (prv ps.length j)) (ptD ps (nxt ps.length j))) (ptD ps j))
def flips (ps : List Pt) (js : List Int) : List Pt := js.foldl (fun ps j => flip1 ps j.toNat) ps
def sticksP (ps : List Pt) : List Pt := (ps.zip (rot ps)).map fun q => subP q.2 q.1
theorem pairD_get {ps qs : List Pt} {i : Nat} {d : Dt} (h : (pairD (ps.map P2) (qs.map P2))[i]? = some d) : ∃ p q, ps[i]? = some p ∧ qs[i]? = some q ∧ d = .tup [P2 p, P2 q] := by
  unfold pairD at h
  rw [List.getElem?_zipWith, List.getElem?_map, List.getElem?_map] at h
  cases e : ps[i]? with
  | none =>
    rw [e] at h
    cases h
  | some p =>
    cases e2 : qs[i]? with
    | none =>
      rw [e, e2] at h
      cases h
    | some q =>
      rw [e, e2] at h
      exact ⟨p, q, rfl, rfl, (Option.some.inj h).symm⟩
theorem pairD_length {ps qs : List Pt} : (pairD (ps.map P2) (qs.map P2)).length = min ps.length qs.length := by
  unfold pairD
  rw [List.length_zipWith, List.length_map, List.length_map]
section
variable {K : PySem.W.Frag} {ρ : Rho} {M : Mm} {Φ : Dt → Mm → Prop} {te : TE} {wi : TI} {g : TG}
theorem ex_lcm {vs : List Nat} (hw : GWipe g vs) (h : IX K wi ρ M (fun ys G M1 => ys.length < sizeLine ∧ G M1 ∧ ∃ zs : List Dt, zs.length = ys.length ∧
    (∀ (i : Nat) d z, ys[i]? = some d → zs[i]? = some z → GX K g d (wipeR ρ vs) M1 (fun ρ2 M2 => EX K te ρ2 M2 (fun y M4 => y = z ∧ M4 = M1))) ∧ Φ (.lst zs) M1)) : EX K (tLc wi g tYes te vs) ρ M Φ := by
  refine ex_lc hw fun B H H1 σ o s R q => h B H H1 σ o s R fun J ys G M' H' H2 z k e w => q J ys G M' H' H2 ?_ k e w
  obtain ⟨hz, hG, zs, hl, hs, hk⟩ := z
  refine ⟨hz, fun i acc M2 => M2 = M' ∧ acc = zs.take i, ⟨rfl, rfl⟩, fun i acc M2 _ hI => by rw [hI.1]; exact hG, fun i d acc M2 hi hI hal => ?_, fun acc M2 hI hal => ?_⟩
  · obtain ⟨rfl, rfl⟩ := hI
    have hlt := (List.getElem?_eq_some_iff.mp hi).1
    have hlt2 : i < zs.length := by omega
    have q2 := hs i d zs[i] hi (List.getElem?_eq_getElem hlt2)
    intro B3 H3 H4 σ3 v3 o3 s3 r3 Q3 h3
    refine q2 B3 H3 H4 σ3 v3 o3 s3 r3 Q3 fun ρ2 M2 σ2 H5 H6 z2 k2 s2 e2 => h3 ρ2 M2 σ2 H5 H6 ?_ k2 s2 e2
    refine tx_yes ⟨fun _ => z2.mono fun y M4 hy => ?_, fun hc => by cases hc⟩
    obtain ⟨rfl, rfl⟩ := hy
    exact ⟨rfl, by rw [List.take_succ_eq_append_getElem hlt2]⟩
  · obtain ⟨rfl, rfl⟩ := hI
    rw [List.take_of_length_le (by omega)]
    exact hk
end
theorem sticksP_length {ps : List Pt} : (sticksP ps).length = ps.length := by
  unfold sticksP
  rw [List.length_map, List.length_zip, rot_length, Nat.min_self]
theorem sticksP_get {ps : List Pt} {i : Nat} {p q : Pt} (hp : ps[i]? = some p) (hq : (rot ps)[i]? = some q) : (sticksP ps)[i]? = some (subP q p) := by
  unfold sticksP
  rw [List.getElem?_map, List.getElem?_zip_eq_some (z := (p, q)) |>.mpr ⟨hp, hq⟩] <;> rfl
theorem plain_p2 (p : Pt) : plain 59 (P2 p) = true := rfl
theorem eqv_p2 (p q : Pt) : PyData.eqv (toP (P2 p)) (toP (P2 q)) = decide (p = q) := by
  show (PyData.eqv (.int p.1) (.int q.1) && (PyData.eqv (.int p.2) (.int q.2) && true)) = _
  show ((p.1 == q.1) && ((p.2 == q.2) && true)) = _
  obtain ⟨a, b⟩ := p
  obtain ⟨c, d⟩ := q
  rw [Bool.and_true]
  by_cases h1 : a = c <;> by_cases h2 : b = d <;> simp [h1, h2]
theorem eqB_p2 (p q : Pt) : eqB (P2 p) (P2 q) = decide (p = q) := eqv_p2 p q
theorem ptD_get {ps : List Pt} {i : Nat} (h : i < ps.length) : ps[i]? = some (ptD ps i) := by
  unfold ptD
  rw [List.getD_eq_getElem?_getD, List.getElem?_eq_getElem h] <;> rfl
theorem pts_get {ps : List Pt} {i : Nat} (h : i < ps.length) : (ps.map P2)[i]? = some (P2 (ptD ps i)) := by
  rw [List.getElem?_map, ptD_get h] <;> rfl
theorem cutD_init (xs : List Dt) : cutD xs none (some (-1)) = xs.dropLast := by
  unfold cutD
  rw [sIx_none, List.drop_zero, Nat.sub_zero, List.dropLast_eq_take]
  congr 1
  unfold HT.sIx
  dsimp only
  rw [if_pos (by decide)]
  omega
theorem Bd.nil {B : Int} : Bd B [] := fun p hp => by cases hp
theorem Bd.cons {B : Int} {p : Pt} {ps : List Pt} (h : -B ≤ p.1 ∧ p.1 ≤ B ∧ -B ≤ p.2 ∧ p.2 ≤ B) (r : Bd B ps) : Bd B (p :: ps) := fun q hq => by
  rcases List.mem_cons.mp hq with e | e
  · rw [e]
    exact h
  · exact r q e
theorem Bd.append {B : Int} {ps qs : List Pt} (h : Bd B ps) (r : Bd B qs) : Bd B (ps ++ qs) := fun q hq => by
  rcases List.mem_append.mp hq with e | e
  · exact h q e
  · exact r q e
theorem Bd.one {B : Int} {p : Pt} (h : -B ≤ p.1 ∧ p.1 ≤ B ∧ -B ≤ p.2 ∧ p.2 ≤ B) : Bd B [p] := Bd.cons h Bd.nil
theorem sum_bd {B : Int} : ∀ {ns : List Int}, (∀ n ∈ ns, -B ≤ n ∧ n ≤ B) → -(B * ns.length) ≤ ns.sum ∧ ns.sum ≤ B * ns.length
  | [], _ => by simp
  | n :: ns, h => by
    have q := sum_bd (ns := ns) fun m hm => h m (List.mem_cons_of_mem _ hm)
    have q2 := h n List.mem_cons_self
    rw [List.sum_cons, List.length_cons]
    have e : B * ((ns.length + 1 : Nat) : Int) = B * (ns.length : Int) + B := by
      rw [Int.natCast_add, Int.mul_add]
      omega
    rw [e]
    omega
/-- one number drawn -/
theorem ex_draw {K : PySem.W.Frag} {ρ : Rho} {M : Mm} {Φ : Dt → Mm → Prop} {t : TA} {E : XK} {a : Addr} {b n : Int} {sp : Sp} (e : sp = SpD K (fun (x : Addr × Int × Int) ds M => ds = [.raw (.ref x.1), .int x.2.1] ∧ (∃ c, M x.1 = some c ∧ IsSrc x.2.2 c) ∧ 0 < x.2.1 ∧ x.2.1 < 2 ^ 4000 ∧ x.2.2 ≤ 2 ^ 40)
    (fun x M d M' => ∃ r c', d = .int r ∧ 0 ≤ r ∧ r < x.2.1 ∧ M' = put M x.1 c' ∧ IsSrc (x.2.2 + 1) c')) (h : ∃ c, M a = some c ∧ IsSrc n c) (hb : 0 < b) (hb2 : b < 2 ^ 100) (hn : n ≤ 2 ^ 40) (ht : AX K t ρ M (fun ds M1 => ds = [.raw (.ref a), .int b] ∧ M1 = M))
    (k : ∀ r c', 0 ≤ r → r < b → IsSrc (n + 1) c' → Φ (.int r) (put M a c')) : EX K (tCall sp [] E t) ρ M Φ := by
  subst e
  refine ex_call fun B H H1 σ o s Q q => ht B H H1 σ o s Q fun vs ds M' H' H2 z => q vs ds M' H' H2 ?_
  obtain ⟨rfl, rfl⟩ := z
  have b4 : (2 : Int) ^ 100 < 2 ^ 4000 := by decide +kernel
  refine ⟨(a, b, n), ⟨rfl, h, hb, Int.lt_trans hb2 b4, hn⟩, ?_⟩
  rintro d M2 ⟨r, c', rfl, h0, h1, rfl, hc⟩
  exact k r c' h0 h1 hc
theorem atI_lst {qs : List Pt} (h : 0 < qs.length) : atI (qs.map P2) (-1) = some (P2 (ptD qs (qs.length - 1))) := by
  refine atI_last (v := P2 (ptD qs (qs.length - 1))) ?_ (fun e => by rw [List.map_eq_nil_iff] at e; rw [e] at h; exact absurd h (by decide))
  rw [List.length_map]
  exact pts_get (by omega)
theorem ptD_mem {qs : List Pt} {i : Nat} (h : i < qs.length) : ptD qs i ∈ qs := List.mem_of_getElem? (ptD_get h)
theorem put_swap {M : Mm} {a b : Addr} {x y : Cell} (h : a ≠ b) : put (put M a x) b y = put (put M b y) a x := by
  funext c
  by_cases h1 : c = a
  · subst h1
    rw [put_ne h, put_same, put_same]
  · by_cases h2 : c = b
    · subst h2
      rw [put_same, put_ne h1, put_same]
    · rw [put_ne h2, put_ne h1, put_ne h1, put_ne h2]
theorem put_under {M : Mm} {a b : Addr} {x y z : Cell} (h : a ≠ b) : put (put (put M a x) b y) a z = put (put M a z) b y := by
  rw [put_swap h, put_put, ← put_swap h]
section
variable {X : Cx} (K : PySem.W.Frag)
theorem pg_tupK (n : Nat) {es : List Expr} {k : Nat} {t : TGs} {pos : Pos} (hc : X.calm = true) (h : PGs X es t) (e : X.K = K) (hn : (assignEach es X.env).length = n := by rfl) (hst : (assignEach es X.env).findIdx? (·.1) = none := by rfl) : PG X (.Tuple es k pos) (gTup K n t) := by
  subst e
  exact pg_tup hc h hn hst
theorem op_addK (e : X.K = K) : OpR X (binaryOp .Add) (rAddA K) := by subst e; exact op_addA
theorem op_mulK (e : X.K = K) : OpR X (binaryOp .Mult) (rMulA K) := by subst e; exact op_mulA
theorem op_eqK (e : X.K = K) (hu : X.A.units + 64 < cLine) : OpR X (compareOp .Eq) (rEqA K) := by subst e; exact op_eqA hu
theorem ix_seqK (e : X.K = K) : IxR X (rIx K) := by subst e; exact ix_seq
theorem call_lenK (e : X.K = K) : CallR X (.builtin "len") (rLenA K) := by subst e; exact call_lenA
theorem pe_fldK {e : Expr} {f : Str} {pos : Pos} {ta : TE} (h : X.K = K) (he : PE X e ta) (hb : attributeBase e f X.env (eval e X.env) = eval e X.env) : PE X (.Attribute e f pos) (tFld K ta f) := by subst h; exact pe_fld he hb
end
end Wk
namespace Wk
open PySem PySem.Spec PyProof.Rows L2
/-- a def's promise where nothing is being shown -/
def FnG (P : Program) (w : World) (K : PySem.W.Frag) (mg : Str → Option Value) (base : Heap) (CX : CXT) (k : Nat) (f : Addr) (sp : Sp) : Prop :=
  ∀ (A : Around) (outer : List Env) (s : Shared) (H : Hp) (us : List Value) (vs : List V) (Q : VK) (E : XK), Room k A → A.guards = some [] → Env0 P w K mg base A outer s H → Vals vs us → sp vs H Q E →
    codeAny (model P w) A (.call (.ref f) ⟨us, []⟩) (CR CX outer P w H s Q E) s
section
variable {P : Program} {w : World} {K : PySem.W.Frag} {mg : Str → Option Value} {base : Heap} {CX : CXT} {j k : Nat} {f : Addr} {sp sp' : Sp}
theorem _root_.L2.FnR.g (F : FnR P w K mg base CX k f sp) : FnG P w K mg base CX k f sp := fun A outer s H us vs Q E hr _ => F A outer s H us vs Q E hr
theorem FnG.mono (F : FnG P w K mg base CX j f sp) (h : j ≤ k) : FnG P w K mg base CX k f sp := fun A outer s H us vs Q E hr => F A outer s H us vs Q E (hr.mono h)
theorem FnG.imp (F : FnG P w K mg base CX k f sp) (h : ∀ vs H Q E, sp' vs H Q E → sp vs H Q E) : FnG P w K mg base CX k f sp' := fun A outer s H us vs Q E hr hg e0 r hs => F A outer s H us vs Q E hr hg e0 r (h _ _ _ _ hs)
theorem bnd_pure {fd : FuncData} {ps : List Str} {us : List Value} {vs : List V} {A : Around} {outer : List Env} {s : Shared} {H : Hp} {E : XK} (hb : bindArgs fd ⟨us, []⟩ = pure (ps.zip us)) (e0 : Env0 P w K mg base A outer s H) (r : Vals vs us) (hl : vs.length = ps.length) :
    StX.Bnd CX P w K mg base fd ⟨us, []⟩ ps A outer s H E (fun xs H2 => xs = vs ∧ H2 = H) := fun A' Ex Q h => by
  rw [hb]
  exact wpAny_pure (h s H vs us e0 Un.refl rfl (fun e s' z => z) r hl ⟨rfl, rfl⟩)
/-- how a def without defaults binds -/
def BindP (x qual : Str) (st : Stmt) (ps : List Str) : Prop := ∀ (kV doc pm : Value) (an : Option Addr) (cdv ct : Value) (us : List Value), us.length = ps.length → bindArgs (PySem.W.fnOf x qual (defArgs st) (defBody st) (defScope st) .none kV doc pm an cdv ct) ⟨us, []⟩ = pure (ps.zip us)
theorem fun_okGX {x qual : Str} {st : Stmt} {fd : FuncData} {N ps : List Str} (F : Fun K x qual st f fd) (S : FnScope N ps (defScope st)) (hb : BindP x qual st ps) (len : ∀ vs H Q E, sp vs H Q E → vs.length = ps.length)
    (hbody : ∀ (cdv : Value) (A : Around) (outer : List Env) (s : Shared) (H : Hp) (vs : List V) (Q : VK) (E : XK), Room k (A.deeper (envOfC qual (defScope st) s.heap.objs.size f cdv)) → A.guards = some [] → sp vs H Q E →
      ∃ t, PSs (cxOf CX P w K mg base N qual (defScope st) f cdv A outer s H E) (defBody st) t ∧ t { nx := fun _ H' => Q .non H', rt := Q } (start N vs) H) : FnG P w K mg base CX (k + 1) f sp := by
  obtain ⟨oc, od, kV, doc, pm, an, cdv, ct, osl, rfl, lk, hcd⟩ := F.ex
  intro A outer s H us vs Q E hr hg e0 r hsp
  have hl := len vs H Q E hsp
  refine StX.run_bnd lk hcd S hr e0 (bnd_pure (hb kV doc pm an cdv ct us (by rw [← r.length]; exact hl)) e0 r hl) fun s2 H2 xs ⟨ex, eH⟩ hr' => ?_
  subst ex eH
  exact hbody cdv A outer s2 _ _ Q E hr' hg hsp
theorem fun_okG {x qual : Str} {st : Stmt} {fd : FuncData} {N ps : List Str} (F : Fun K x qual st f fd) (S : FnScope N ps (defScope st)) (hb : BindP x qual st ps) (len : ∀ vs H Q E, sp vs H Q E → vs.length = ps.length)
    (hbody : ∀ (cdv : Value) (A : Around) (outer : List Env) (s : Shared) (H : Hp) (vs : List V) (Q : VK) (E : XK), Room k (A.deeper (envOfC qual (defScope st) s.heap.objs.size f cdv)) → A.guards = some [] → sp vs H Q E →
      ∃ t, PSs (cxOf CX0 P w K mg base N qual (defScope st) f cdv A outer s H E).nox (defBody st) t ∧ t { nx := fun _ H' => Q .non H', rt := Q } (start N vs) H) : FnG P w K mg base CX0 (k + 1) f sp :=
  fun_okGX F S hb len fun cdv A outer s H vs Q E hr hg hsp => by
    obtain ⟨t, h, q⟩ := hbody cdv A outer s H vs Q E hr hg hsp
    exact ⟨t, h.nox, q⟩
end
section
variable {X : Cx} {pins : List (Addr × Obj)} {σ : L2.St} {H : Hp} {s : Shared} {CX : CXT} {j k : Nat} {f C : Addr} {sp : Sp} {E : XK}
/-- shown as text -/
def rShow (K : PySem.W.Frag) : List V → Hp → VK → Prop := fun xs H Q => ∃ v d, xs = [v] ∧ Dp K H v d ∧ d.showable = true ∧ d.hasDict = false ∧ d.depth ≤ 100 ∧ d.shown.length ≤ sizeLine ∧ Q (.str d.shown) H
theorem call_reprD (hr : Room k X.A) (hg : X.A.guards = some []) : CallR X (.builtin "repr") (rShow X.K) := by
  intro pins s σ H xs us Q I r h
  obtain ⟨v, d, ex, hd, h1, h2, h3, h4, q⟩ := h
  subst ex
  obtain ⟨u, rfl, ru⟩ := vals1 r
  obtain ⟨as, rd⟩ := Dp.reads I d v u hd ru
  have hu := hr.units
  have hu2 := hr.un
  cases rd with
  | none =>
    simp only [PyData.shown] at q
    exact PySem.P.repr_of_none ⟨.str _, H, I.tok _, ⟨_, rfl⟩, q⟩
  | bool b =>
    simp only [PyData.shown] at q
    refine PySem.P.repr_of_bool ⟨.str (if b then "True" else "False"), H, I.tok _, ⟨s.toks, ?_⟩, q⟩
    cases b <;> rfl
  | int i t =>
    simp only [PyData.shown] at q
    exact PySem.P.repr_of_int (by simpa [PyData.showable] using h1) ⟨.str _, H, I.tok _, ⟨_, rfl⟩, q⟩
  | str x t =>
    simp only [PyData.shown] at q h4
    exact PySem.P.repr_of_str ⟨.str _, H, I.tok _, ⟨_, rfl⟩, q⟩ h4
  | list e1 e2 e3 e4 => exact repr_of_reads' (.list e1 e2 e3 e4) h1 (PyData.noDict_hsm h2) hg (by omega) (fun _ _ e => e) (fun h' u tk hk => ⟨.str _, H, I.kept hk, ⟨_, rfl⟩, q⟩) h4
  | tuple e1 e2 e3 e4 => exact repr_of_reads' (.tuple e1 e2 e3 e4) h1 (PyData.noDict_hsm h2) hg (by omega) (fun _ _ e => e) (fun h' u tk hk => ⟨.str _, H, I.kept hk, ⟨_, rfl⟩, q⟩) h4
  | dict e1 e2 e3 e4 e5 => exact absurd h2 (by simp [PyData.hasDict])
end
section
open Evl
variable {K : PySem.W.Frag} {ρ : Rho} {M : Mm} {Φ : Dt → Mm → Prop} {te : TE} {C : Addr} {E : XK} {α : Type} {pre : α → List Dt → Mm → Prop} {post : α → Mm → Dt → Mm → Prop}
abbrev shD (d : Dt) : Str := (toP d).shown
/-- d may be shown -/
structure Sh (d : Dt) : Prop where
  pl : plain 60 d = true
  sh : (toP d).showable = true
  sz : (shD d).length ≤ sizeLine
theorem Sh.dp {H : Hp} {v : V} {d : Dt} (h : Sh d) (r : Rp K H v d) : Dp K H v (toP d) ∧ (toP d).showable = true ∧ (toP d).hasDict = false ∧ (toP d).depth ≤ 100 ∧ (toP d).shown.length ≤ sizeLine := by
  have q := shaped_of h.pl
  exact ⟨dp_of r h.pl, h.sh, PyData.hasDict_of_canLay _ q.1, by omega, h.sz⟩
theorem cx_repr {d : Dt} (h : Sh d) (k : Φ (.str (shD d)) M) : CX K (rShow K) [d] M Φ := fun B H H1 vs o r Q q => by
  cases r with
  | cons r rr =>
    cases rr
    obtain ⟨h1, h2, h3, h4, h5⟩ := h.dp (r.mono o.h)
    exact ⟨_, _, rfl, h1, h2, h3, h4, h5, q _ _ _ _ _ k o (Ex.refl H) (.str _)⟩
end
end Wk
namespace Wk
open PySem PySem.Spec PyProof.Rows L2
section
variable {P : Program} {w : World} {K : PySem.W.Frag} {mg mb : Str → Option Value} {CX : CXT} {k : Nat} {fa a : Addr} {sp : Sp} {s : Shared} {vs : List Value} {ns : List Int} {H : Hp}
/-- the module's objects without what is tracked -/
theorem top_keep {b : Addr} {o : Obj} (e : s.heap.get? b = some o) (h : ∀ u, H b = some u → False) : (hidT s.heap H).get? b = some o := hidT_get e (by
  cases z : H b with
  | none => rfl
  | some u => exact (h u z).elim)
theorem top_ns {o : Obj} (ea : s.heap.get? a = some o) (sq : ∃ l n, o.data = .seq l n) (only : ∀ b u, H b = some u → b = a) {b : Addr} {m : Str → Option Value} (z : s.heap.Ns b m) : (hidT s.heap H).Ns b m := by
  obtain ⟨ob, es, ep, e1, e2, rest⟩ := z
  refine ⟨ob, es, ep, top_keep e1 fun u hu => ?_, e2, rest⟩
  have hb := only b u hu
  subst hb
  rw [ea] at e1
  cases e1
  obtain ⟨l, n, hl⟩ := sq
  rw [hl] at e2
  cases e2
theorem top_env (inK : K.In s.heap) (gl : s.heap.Ns mainGlobals mg) (bl : s.heap.Ns builtinsNs mb) (boot : ∀ y : Str, y ≠ "__name__" → mb y = bootBuiltins y) (nl : s.heap.NoLimit) (gn : s.gens = #[]) {o : Obj} (ea : s.heap.get? a = some o) (sq : ∃ l n, o.data = .seq l n)
    (ok : HOk P w H s.heap) (only : ∀ b u, H b = some u → b = a) (nk : ∀ u, H a = some u → K.lookup a = none) : K.In (hidT s.heap H) ∧ (hidT s.heap H).Ns mainGlobals mg ∧ Env0 P w K mg (hidT s.heap H) callerA [] s H := by
  have i1 : K.In (hidT s.heap H) := fun b ob e => top_keep (inK b ob e) fun u hu => by
    have hb := only b u hu
    subst hb
    have z := nk u hu
    rw [z] at e
    cases e
  have i2 : (hidT s.heap H).Ns mainGlobals mg := top_ns ea sq only gl
  obtain ⟨lm, l1, l2⟩ := nl
  exact ⟨i1, i2, rfl, ⟨i1, i2, ⟨mb, top_ns ea sq only bl, boot⟩, lm, top_ns ea sq only l1, l2⟩, fun _ _ e => of_hidT e, Nat.le_of_eq (hidT_size _ _), trivial, (fun _ hb => by cases hb), ok, .of_eq gn⟩
theorem top_runs (inK : K.In s.heap) (gl : s.heap.Ns mainGlobals mg) (bl : s.heap.Ns builtinsNs mb) (boot : ∀ y : Str, y ≠ "__name__" → mb y = bootBuiltins y) (nl : s.heap.NoLimit) (gn : s.gens = #[]) {o : Obj} (ea : s.heap.get? a = some o) (sq : ∃ l n, o.data = .seq l n)
    (room : Room k callerA) (F : ∀ base : Heap, K.In base → base.Ns mainGlobals mg → FnG P w K mg base CX k fa sp) (ok : HOk P w H s.heap) (only : ∀ b u, H b = some u → b = a) (froz : ∀ u, H a = some u → ∃ o xs, u = .frz o (.lst xs)) (nk : ∀ u, H a = some u → K.lookup a = none)
    (hsp : sp [.ref a] H (fun v _ => v = .bl true) fun _ _ _ => False) (none_out : ∀ e s', CX [] H s (fun _ _ _ => False) e s' → False) :
    codeAny (model P w) callerA (.call (.ref fa) ⟨[.ref a], []⟩) (fun r s' => r = .ok (.ret (.bool true)) ∧ OldK s.heap s'.heap ∧ s'.os = s.os ∧ AllBare s'.gens) s := by
  obtain ⟨i1, i2, env⟩ := top_env inK gl bl boot nl gn ea sq ok only nk
  refine codeAny_mono (F _ i1 i2 callerA [] s H [.ref a] [.ref a] _ _ room rfl env (.cons rfl .nil) hsp) fun res s' hres => ?_
  match res, hres with
  | .error e, he => exact (none_out e s' he).elim
  | .ok .next, z => exact z.elim
  | .ok .brk, z => exact z.elim
  | .ok .cont, z => exact z.elim
  | .ok (.ret u), hu =>
    obtain ⟨v, H2, sameOs, bare, un, ok2, rv, ev⟩ := hu
    obtain rfl : v = V.bl true := ev
    obtain rfl : u = Value.bool true := rv
    refine ⟨rfl, OldK.of_keep fun b ob eb => ?_, sameOs, bare⟩
    cases z : H b with
    | none => exact un.keep b ob eb z (fun m => by cases m) (fun m => by cases m)
    | some u =>
      have hb := only b u z
      subst hb
      obtain ⟨o3, xs, rfl⟩ := froz u z
      obtain ⟨g1, _⟩ := ok b _ z
      obtain ⟨g2, _⟩ := ok2 b _ (un.frzs b o3 _ z)
      rw [eb] at g1
      cases g1
      exact g2
/-- the script as it stands: one of the module's own lists, or a list that is known -/
def oneH (a : Addr) (vs : List Value) (ns : List Int) : Hp := fun b => if b = a then some (.frz { cls := .type "list", data := .seq vs.toArray } (.lst (ns.map V.int))) else none
theorem top_call (inK : K.In s.heap) (gl : s.heap.Ns mainGlobals mg) (bl : s.heap.Ns builtinsNs mb) (boot : ∀ y : Str, y ≠ "__name__" → mb y = bootBuiltins y) (nl : s.heap.NoLimit) (gn : s.gens = #[])
    (ea : s.heap.get? a = some { cls := .type "list", data := .seq vs.toArray }) (hns : IntsAre vs ns) (len : ns.length ≤ sizeLine) (room : Room k callerA) (F : ∀ base : Heap, K.In base → base.Ns mainGlobals mg → FnG P w K mg base CX k fa sp)
    (hsp : ∀ H : Hp, SqL K H a (ns.map V.int) → sp [.ref a] H (fun v _ => v = .bl true) fun _ _ _ => False) (none_out : ∀ H e s', CX [] H s (fun _ _ _ => False) e s' → False) :
    codeAny (model P w) callerA (.call (.ref fa) ⟨[.ref a], []⟩) (fun r s' => r = .ok (.ret (.bool true)) ∧ OldK s.heap s'.heap ∧ s'.os = s.os ∧ AllBare s'.gens) s := by
  have rv := vals_ints hns
  have hl := hns.length
  have sq : ∃ l n, ({ cls := .type "list", data := .seq vs.toArray } : Obj).data = .seq l n := ⟨_, _, rfl⟩
  by_cases hk : ∃ o, K.lookup a = some o
  · obtain ⟨o, hk⟩ := hk
    have e2 := inK a o hk
    rw [ea] at e2
    cases e2
    have s0 : SqL K (fun _ => none) a (ns.map V.int) := .inr ⟨_, vs.toArray, _, hk, rfl, rfl, rfl, by rw [List.size_toArray, hl]; exact len, by simpa using rv⟩
    exact top_runs (H := fun _ => none) inK gl bl boot nl gn ea sq room F (fun b u z => nomatch z) (fun b u z => nomatch z) (fun u z => nomatch z) (fun u z => nomatch z) (hsp _ s0) (none_out _)
  · have kn : K.lookup a = none := by
      cases z : K.lookup a with
      | none => rfl
      | some o => exact absurd ⟨o, z⟩ hk
    have one : ∀ b u, oneH a vs ns b = some u → b = a ∧ u = .frz { cls := .type "list", data := .seq vs.toArray } (.lst (ns.map V.int)) := fun b u z => by
      unfold oneH at z
      by_cases hb : b = a
      · rw [if_pos hb] at z
        cases z
        exact ⟨hb, rfl⟩
      · rw [if_neg hb] at z
        cases z
    have at_ : oneH a vs ns a = some (.frz { cls := .type "list", data := .seq vs.toArray } (.lst (ns.map V.int))) := if_pos rfl
    refine top_runs (H := oneH a vs ns) inK gl bl boot nl gn ea sq room F (fun b u z => ?_) (fun b u z => (one b u z).1) (fun u z => ⟨_, _, (one a u z).2⟩) (fun _ _ => kn) (hsp _ (.inl (.inr ⟨_, at_⟩))) (none_out _)
    obtain ⟨rfl, rfl⟩ := one b u z
    exact ⟨ea, by rw [List.length_map]; exact len, vs, _, rv, ea⟩
end
/-- a value of a built-in kind is no instance of C -/
theorem kit_no {K : PySem.W.Frag} {C : Addr} {cd : ClassData} {T : String} (h1 : PySem.W.clsIn K C = some cd) (h2 : PySem.W.typeIn K (.ref C) = some (.type "type")) (h3 : PySem.W.subIn K (.type T) (.ref C) = some false) : PySem.W.kitOne K (.type T) (.ref C) = some false := by
  have e : ¬ ((Value.type T == Value.ref C) = true) := fun e => by
    have q := eq_of_beq e
    cases q
  have e2 : ((PySem.W.clsIn K C).isSome && PySem.W.typeIn K (.ref C) == some (.type "type")) = true := by
    rw [h1, h2]
    simp
  unfold PySem.W.kitOne
  rw [if_neg e]
  exact (if_pos e2).trans h3
theorem top_walk {l : PySem.W.OpenLaw} {n k : Nat} {q : Program} {loose : List Str} {XP : (Str → Option Value) → Heap → Prop} {YP : World → Heap → Prop} {d : DefRec} {K : Params → PySem.W.Frag} {CX : World → CXT} {sp : World → Sp}
    (hn : l.most = some n) (small : n ≤ sizeLine) (hdf : d.params.defaults = []) (room : Room k callerA) (hY : ∀ (w : World) (h : Heap), YP w h → (K w.params).In h)
    (F : ∀ (w : World) (mg : Str → Option Value) (fa : Addr) (h : Heap), (K w.params).In h → h.Ns mainGlobals mg → mg d.name = some (.ref fa) → ∀ base : Heap, (K w.params).In base → base.Ns mainGlobals mg → FnG l.prog w (K w.params) mg base (CX w) k fa (sp w))
    (hsp : ∀ (w : World) (H : Hp) (a : Addr) (ns : List Int), ns.length ≤ n → SqL (K w.params) H a (ns.map V.int) → sp w [.ref a] H (fun v _ => v = .bl true) fun _ _ _ => False)
    (none_out : ∀ (w : World) (H : Hp) (s : Shared) (e : Value) (s' : Shared), CX w [] H s (fun _ _ _ => False) e s' → False) : PySem.W.WalkO q loose XP YP l.row.toRowW d [] (fun f vs => PySem.call f vs) := by
  refine Att.attach_call hn hdf fun w s₀ s₁ mg mb fa o pm cd doc a vs ns G Y ho hd hcd hmg hobj hints hlen hg => ?_
  have inK := hY w _ Y
  exact top_call inK G.T.g G.T.b G.T.builtins G.T.nolimit hg hobj hints (Nat.le_trans hlen small) room (F w mg fa _ inK G.T.g hmg) (fun H hS => hsp w H a ns hlen hS) fun H e s' => none_out w H s₁ e s'
end Wk
namespace Wk
open PySem PySem.Spec PyProof.Rows L2
open PySem.W (ksFn ksEnv kxs_mw KxsAt)
end Wk
namespace Wk
open PySem PySem.Spec PyProof.Rows L2
open PySem.W (ksFn ksEnv kxs_mw KxsAt)
end Wk
namespace Wk
open PySem L2 Evl
/-- what is wished of an exception, by its class, its fields and what may change -/
abbrev XD := Addr → List (Str × Dt) → Mm → Prop
def RelX (K : PySem.W.Frag) (B H : Hp) (E : XK) (XP : XD) : Prop := ∀ (C : Addr) (dd : Option Addr) (fs : List (Str × V)) (gs : List (Str × Dt)) (M' : Mm) (H' H2 : Hp), XP C gs M' → Ok K B H' H2 M' → XdAt H' dd fs → RpFs K H' fs gs → Ex H H' → E (.ref C) dd H2
section
variable {K : PySem.W.Frag} {B H H' : Hp} {E : XK} {XP XP' : XD}
theorem RelX.mono (r : RelX K B H E XP) (e : Ex H H') : RelX K B H' E XP := fun C dd fs gs M' H2 H3 x k h f e2 => r C dd fs gs M' H2 H3 x k h f (e.trans e2)
theorem RelX.imp (r : RelX K B H E XP) (h : ∀ C gs M', XP' C gs M' → XP C gs M') : RelX K B H E XP' := fun C dd fs gs M' H2 H3 x => r C dd fs gs M' H2 H3 (h _ _ _ x)
end
section
variable (K : PySem.W.Frag) (E : XK) (XP : XD)
def EY (te : TE) (ρ : Rho) (M : Mm) (Φ : Dt → Mm → Prop) : Prop := ∀ (B H H1 : Hp) (σ : L2.St), Ok K B H H1 M → SlOk K H σ ρ → RelX K B H E XP → ∀ Q : VK,
  (∀ v d M' H' H2, Φ d M' → Ok K B H' H2 M' → Ex H H' → Rp K H' v d → Q v H2) → te σ H1 Q
def SY (t : TS) (ρ : Rho) (M : Mm) (F : Es) : Prop := ∀ (B H H1 : Hp) (σ : L2.St) (D : Ends), Ok K B H H1 M → SlOk K H σ ρ → RelX K B H E XP → RelE K B H D F → t D σ H1
end
section
variable {K : PySem.W.Frag} {E : XK} {XP XP' : XD} {ρ : Rho} {M : Mm} {Φ : Dt → Mm → Prop} {te : TE} {ts us : TS} {F : Es} {t : TT} {wi : TI} {g : TG}
theorem SY.imp (h : SY K E XP ts ρ M F) (k : ∀ C gs M', XP C gs M' → XP' C gs M') : SY K E XP' ts ρ M F := fun B H H1 σ D o s x r => h B H H1 σ D o s (x.imp k) r
theorem EY.mono {Ψ : Dt → Mm → Prop} (h : EY K E XP te ρ M Φ) (k : ∀ d M', Φ d M' → Ψ d M') : EY K E XP te ρ M Ψ := fun B H H1 σ o s x Q q => h B H H1 σ o s x Q fun v d M' H' H2 z => q v d M' H' H2 (k d M' z)
end
end Wk
namespace Wk
open PySem PySem.Spec PyProof.Rows L2 Evl
section
variable {X : Cx} {k j : Nat} {C : Addr} {x : Str} {sp : Sp} {p pos : Pos} {e : Expr} {es : List Expr} {t : TA}
theorem pe_mkA (c : MkR X.prog X.w X.K X.mg X.base k C x sp) (hr : Room j X.A) (hk : k + 1 ≤ j) (hg : Gl X x) (ha : PA X (e :: es) t) (hdb : (x == ("__debug__" : Str)) = false := by decide)
    (he : starEach (e :: es) X.env = (false, eval e X.env) :: starEach es X.env := by rfl) (hpl : (backTo pos (starEach es X.env)).any (·.1) = false := by rfl) : PE X (.Call (.Name x p) (e :: es) [] pos) (StX.tMakeR C sp E0 t) := by
  obtain ⟨f, M, F⟩ := c.ex
  exact StX.pe_makeR M F (hr.mono hk) hg c.gl pass0 ha hdb he hpl
end
section
variable {K : PySem.W.Frag} {ρ : Rho} {M : Mm} {Φ : Dt → Mm → Prop} {t : TA} {E : XK} {C : Addr} {α : Type} {pre : α → List Dt → Mm → Prop} {post : α → Mm → Dt → Mm → Prop}
theorem ex_makeA (h : AX K t ρ M (fun xs M1 => ∀ x, M1 x = none → ∃ y, pre y (.raw (.ref x) :: xs) (put M1 x (.ins C [])) ∧ ∀ d M2, post y (put M1 x (.ins C [])) d M2 → d = .non ∧ Φ (.raw (.ref x)) M2)) :
    EX K (StX.tMakeR C (SpD K pre post) E t) ρ M Φ := fun B H H1 σ o s Q q =>
  h B H H1 σ o s _ fun vs xs M' H' H2 z k e r x dx hx hdx ne => by
    obtain ⟨y, z1, z2⟩ := z x (k.noMem hx)
    have k1 := k.grow (o := .own x) hdx
    have e1 := Ex.new (o := .own x) (fresh_back k.h hdx)
    have hx1 : upd H2 dx (.own x) x = none := by
      rw [upd_ne ne.symm]
      exact hx
    have k2 := k1.cell (o := .ins C dx []) (c := .ins C []) hx1 ⟨dx, [], upd_same, .nil⟩
    exact ⟨y, B, _, _, _, k2, .cons (.raw _) (r.mono e1), z1, fun v d M3 H5 H6 hp k3 e3 r3 => by
      obtain ⟨rfl, z3⟩ := z2 d M3 hp
      exact ⟨r3.non_inv, q _ _ _ _ _ z3 k3 (e.trans (e1.trans e3)) (.raw _)⟩⟩
end
inductive TyC (K : PySem.W.Frag) (H : Hp) : V → String → Prop
  | int (i : Int) : TyC K H (.int i) "int"
  | str (x : Str) : TyC K H (.str x) "str"
  | tup {a : Addr} {xs : List V} (h : SqT K H a xs) : TyC K H (.ref a) "tuple"
def rOwnX (K : PySem.W.Frag) (C : Addr) (sp : Sp) (E : XK) : R2 := fun x y H Q => ∃ a dx fs T, x = .ref a ∧ H a = some (.ins C dx fs) ∧ TyC K H y T ∧ PySem.W.notFirst K C (.type T) = true ∧ sp [x, y] H (fun v H' => ∃ k, v = .bl k ∧ Q (.bl k) H') E
section
variable {X : Cx} {k j : Nat} {C : Addr} {sp : Sp}
theorem op_eqX (c : EqR X.prog X.w X.K X.mg X.base k C sp) (hr : Room j X.A) (hk : k ≤ j) : OpR X (compareOp .Eq) (rOwnX X.K C sp E0) := by
  obtain ⟨f, o, _, F⟩ := c.ex
  intro pins s σ H x y u v Q I rx ry h
  obtain ⟨a, dx, fs, T, ex, ha, ty, hn, hq⟩ := h
  subst ex
  cases rx
  obtain ⟨mA, J, _⟩ := ins_get I.hok ha
  obtain ⟨od, J, _⟩ := J.look
  obtain ⟨m, hF⟩ := I.fr
  have hb : PySem.W.Looks (model X.prog X.w) s.heap (typeOf v) (.type T) := by
    cases ty with
    | int i =>
      obtain ⟨t, rfl⟩ := ry
      exact PySem.W.Looks.of_pure rfl
    | str i =>
      obtain ⟨t, rfl⟩ := ry
      exact PySem.W.Looks.of_pure rfl
    | tup ht =>
      cases ry
      obtain ⟨its, rv, ⟨ob, ho, hc, _⟩, _⟩ := I.tuple ht
      exact fun A Q E s k q => wpAny_typeOf_ref (k _ _ ho) (by rw [hc]; exact q)
  refine PySem.W.cmp_K (op := .Eq) hr.units0 hF I.ok.mod.kin J hb hn o.at_ o.fn ?_
  refine wpAny_call (codeAny_mono (F X.A X.stack s H [.ref a, v] [.ref a, y] _ E0 (hr.mono hk) I.env0 (.cons rfl (.cons ry .nil)) hq) fun r s' hq => ?_)
  cases r with
  | error e => exact hq.elim
  | ok fl =>
    cases fl with
    | ret u =>
      obtain ⟨v, H1, I1, rv, k, ev, q⟩ := I.after hq
      subst ev
      cases rv
      exact ⟨.bl k, H1, I1, rfl, q⟩
    | next => exact False.elim hq
    | brk => exact False.elim hq
    | cont => exact False.elim hq
end
section
open Evl
variable {K : PySem.W.Frag} {ρ : Rho} {M : Mm} {Φ : Dt → Mm → Prop} {E : XK} {C : Addr} {α : Type} {pre : α → List Dt → Mm → Prop} {post : α → Mm → Dt → Mm → Prop}
inductive TyD : Dt → String → Prop
  | int (i : Int) : TyD (.int i) "int"
  | str (x : Str) : TyD (.str x) "str"
  | tup (xs : List Dt) : TyD (.tup xs) "tuple"
theorem rx_ownX {fs : List (Str × Dt)} {d : Dt} {T : String} (ty : TyD d T) (hn : PySem.W.notFirst K C (.type T) = true) (h : ∃ z, pre z [.obj C fs, d] M ∧ ∀ d M', post z M d M' → ∃ b, d = .bl b ∧ Φ (.bl b) M') : RX K (rOwnX K C (SpD K pre post) E) (.obj C fs) d M Φ := fun B H H1 vx vy o rx ry Q q => by
  obtain ⟨z, z1, z2⟩ := h
  obtain ⟨a, dx, us, rfl, h1, r1⟩ := rx.obj_inv
  have ty' : TyC K H1 vy T := by
    cases ty with
    | int i => rw [ry.int_inv]; exact .int i
    | str i => rw [ry.str_inv]; exact .str i
    | tup xs =>
      obtain ⟨b, ys, rfl, h2, r2⟩ := ry.tup_inv
      exact .tup (ex_t o.h h2)
  refine ⟨a, dx, us, T, rfl, o.h _ _ h1, ty', hn, z, B, H, M, _, o, .cons rx (.one ry), z1, fun v d M3 H5 H6 hp k3 e3 r3 => ?_⟩
  obtain ⟨b, rfl, z3⟩ := z2 d M3 hp
  exact ⟨b, r3.bl_inv, q _ _ _ _ _ z3 k3 e3 (.bl _)⟩
/-- isinstance(x, C) of another kind -/
theorem cx_isiN {D : Addr} {d : Dt} {T : String} {b : Bool} (ty : TyD d T) (e : PySem.W.kitOne K (.type T) (.ref D) = some b) (k : Φ (.bl b) M) : CX K (rIsi K) [d, .raw (.ref D)] M Φ := fun B H H1 vs o r Q q => by
  cases r with
  | cons r rr =>
    cases rr with
    | cons r2 rr =>
      cases rr
      obtain rfl := r2.raw_inv
      have fin : ∀ {x : V}, TyX K H1 x (.type T) → rIsi K [x, .ref D] H1 Q := fun {x} h => ⟨_, _, .type T, .ref D, b, rfl, .own D, h, e, q _ _ _ _ _ k o (Ex.refl H) (.bl b)⟩
      cases ty with
      | int i =>
        rw [r.int_inv]
        exact fin (.base (.int i))
      | str i =>
        rw [r.str_inv]
        exact fin (.base (.str i))
      | tup xs =>
        obtain ⟨a, us, rfl, h2, r2⟩ := r.tup_inv
        rcases ex_t o.h h2 with h | ⟨ob, its, n, h1, h2, _⟩
        · rcases h with h | ⟨ob, h⟩
          · exact fin (.base (.tup h))
          · exact fin (.fTuple h)
        · exact fin (.kTuple h1 h2)
end
end Wk
namespace Wk
open PySem L2 Evl
section
variable {K : PySem.W.Frag} {ρ : Rho} {M : Mm} {Φ : Dt → Mm → Prop} {te : TE} {ts : List TE}
def JX (K : PySem.W.Frag) (ts : List TE) (acc : Str) (ρ : Rho) (M : Mm) (Φ : Str → Mm → Prop) : Prop := ∀ (B H H1 : Hp) (σ : L2.St), Ok K B H H1 M → SlOk K H σ ρ → ∀ Q : Str → Hp → Prop,
  (∀ out M' H' H2, Φ out M' → Ok K B H' H2 M' → Ex H H' → Q out H2) → tJs ts acc σ H1 Q
theorem jx_nil {acc : Str} {Φ : Str → Mm → Prop} (k : Φ acc M) : JX K [] acc ρ M Φ := fun B H H1 σ o s Q q => q _ _ _ _ k o (Ex.refl H)
theorem jx_cons {acc : Str} {Φ : Str → Mm → Prop} (h : EX K te ρ M (fun d M1 => ∃ y, d = .str y ∧ (acc ++ y).length ≤ sizeLine ∧ JX K ts (acc ++ y) ρ M1 Φ)) : JX K (te :: ts) acc ρ M Φ := fun B H H1 σ o s Q q =>
  h B H H1 σ o s _ fun v d M' H' H2 z k e r => by
    obtain ⟨y, rfl, hl, z⟩ := z
    exact ⟨y, r.str_inv, hl, z B H' H2 σ k (s.mono e) Q fun out M3 H3 H4 z3 k3 e3 => q out M3 H3 H4 z3 k3 (e.trans e3)⟩
theorem ex_joined (h : JX K ts Str.empty ρ M (fun out M1 => Φ (.str out) M1)) : EX K (fun σ H Q => tJs ts Str.empty σ H fun out H1 => Q (.str out) H1) ρ M Φ := fun B H H1 σ o s Q q =>
  h B H H1 σ o s _ fun out M' H' H2 z k e => q _ _ _ _ _ z k e (.str _)
theorem ex_fmtI (h : EX K te ρ M (fun d M1 => ∃ i, d = .int i ∧ i.natAbs.log2 < 1920 ∧ Φ (.str (toString i)) M1)) : EX K (tFmt te) ρ M Φ := fun B H H1 σ o s Q q =>
  h B H H1 σ o s _ fun v d M' H' H2 z k e r => by
    obtain ⟨i, rfl, hl, z⟩ := z
    exact .inr ⟨i, r.int_inv, hl, q _ _ _ _ _ z k e (.str _)⟩
end
theorem str_nil (y : Str) : Str.empty ++ y = y := TL.ext_tl (by rw [TL.tl_append] <;> rfl)
theorem sh_bl (b : Bool) : Sh (.bl b) := by
  refine ⟨rfl, ?_, ?_⟩
  · rw [toP]
    simp [PyData.showable]
  · unfold shD
    rw [toP]
    simp only [PyData.shown]
    cases b <;> decide +kernel
end Wk
namespace Wk
open PySem PySem.Spec PyProof.Rows L2
/-- what is promised of the positional values and the keyword's value -/
abbrev SpW := List V → V → Hp → VK → XK → Prop
/-- a def called with one keyword -/
def FnW (P : Program) (w : World) (K : PySem.W.Frag) (mg : Str → Option Value) (base : Heap) (CX : CXT) (k : Nat) (f : Addr) (kw : Str) (sp : SpW) : Prop :=
  ∀ (A : Around) (outer : List Env) (s : Shared) (H : Hp) (us : List Value) (vs : List V) (u : Value) (v : V) (Q : VK) (E : XK), Room k A → Env0 P w K mg base A outer s H → Vals vs us → RelV v u → sp vs v H Q E →
    codeAny (model P w) A (.call (.ref f) ⟨us, [(kw, u)]⟩) (CR CX outer P w H s Q E) s
section
variable {P : Program} {w : World} {K : PySem.W.Frag} {mg : Str → Option Value} {base : Heap} {CX : CXT} {j k : Nat} {f D : Addr} {x qual : Str} {st : Stmt} {fd : FuncData} {N ps : List Str} {sp : Sp} {sw sw' : SpW} {pv kw : Str} {dv : V} {du : Value}
theorem FnW.mono (F : FnW P w K mg base CX j f kw sw) (h : j ≤ k) : FnW P w K mg base CX k f kw sw := fun A outer s H us vs u v Q E hr => F A outer s H us vs u v Q E (hr.mono h)
theorem FnW.imp (F : FnW P w K mg base CX k f kw sw) (h : ∀ vs v H Q E, sw' vs v H Q E → sw vs v H Q E) : FnW P w K mg base CX k f kw sw' := fun A outer s H us vs u v Q E hr e0 r rv hs => F A outer s H us vs u v Q E hr e0 r rv (h _ _ _ _ _ hs)
end
theorem vals1 {v : V} {us : List Value} (r : Vals [v] us) : ∃ u, us = [u] ∧ RelV v u := by
  cases r with
  | cons r1 r2 =>
    cases r2
    exact ⟨_, rfl, r1⟩
section
variable {X : Cx} {CX : CXT} {k : Nat} {f C : Addr} {kw x m : Str} {sp : Sp} {sw : SpW} {E : XK} {e e1 o : Expr} {es : List Expr} {kws : List Keyword} {ta t1 : TE} {t tk : TA} {p apos pos : Pos}
/-- o.m(), its def a promise by positional values -/
theorem pe_methR0 {pl : Sem Bool} (he : PE X o ta) (c : Cls X.K C) (hm : Meth X.K C m f) (F : FnR X.prog X.w X.K X.mg X.base CX k f sp) (hr : Room k X.A) (hx : Passes CX X E)
    (ht : eval (.Call (.Attribute o m apos) [] [] pos) X.env = (do
      let ov ← eval o X.env
      standAt apos.atName
      let (f, first) ← holding [ov] (getMethod ov m pl)
      callWith pos f first (backTo pos (starEach [] X.env)) (backToKw pos (keywordEach [] X.env))) := by rfl) :
    PE X (.Call (.Attribute o m apos) [] [] pos) (tMeth C m sp [] E ta tNil) := by
  refine ⟨fun pins s σ H Q I h => ?_⟩
  refine PySem.W.methodCall_KW (pl := pl) (thn (he.run pins s σ H _ I h) fun u s1 ⟨x, H1, I1, rx, a, dx, fs, ex, ea, l, q⟩ => ?_) ht
  subst ex
  obtain rfl : u = Value.ref a := rx
  refine getmeth_ok I1 ea c hm l ?_
  exact PySem.W.callWith_K0 (first := [.ref a]) I1.kIn hm.kp (wpAny_call (run_fnR (us := [.ref a]) (vs := [.ref a]) F hr hx I1 (.cons rfl .nil) q))
end
section
variable {K : PySem.W.Frag} {D f : Addr} {x qual : Str} {st : Stmt} {fd : FuncData} {ps : List Str} {kw : Str} {dv : V} {du : Value} {P : Program} {w : World} {mg : Str → Option Value} {base : Heap} {CX : CXT} {k : Nat} {sp : Sp}
theorem FunK.plain (F : FunK K x qual st D f fd) (hk : PySem.W.keepIn K (.ref f) = true) : L2.Fun K x qual st f fd := by
  obtain ⟨oc, od, doc, pm, an, cdv, ct, osl, rfl, lk, hcd⟩ := F.ex
  exact ⟨⟨_, _, _, _, _, _, _, _, _, rfl, lk, hcd⟩, hk⟩
end
end Wk
namespace Wk
open PySem PySem.Spec PyProof.Rows L2 GenW
end Wk
namespace Wk
open PySem PySem.Spec PyProof.Rows L2 GenW
/-- noted by the frame that runs -/
def XH (X : Cx) (W : WX) (u : Value) (s' : Shared) : Prop :=
  ∃ (a : Addr) (B : Heap) (sI : Shared) (pins : List (Addr × Obj)) (σ : L2.St) (H : Hp) (cls : Value) (d : Option Addr),
    u = .ref a ∧ Inv X pins σ H sI ∧ (∀ b o, sI.heap.get? b = some o → b ∉ frs X.stack → B.get? b = some o) ∧ sI.heap.UpToSlots s'.heap ∧
      HandSPX.HeldZ B X.stack a (Zc cls d) X.env.locals s'.heap ∧ H a = none ∧ s'.os = sI.os ∧ AllBare s'.gens ∧ W cls d σ H
theorem XH.xe {X : Cx} {W : WX} {u : Value} {s' : Shared} (h : XH X W u s') : XE X W u s' := by
  obtain ⟨a, B, sI, pins, σ, H, cls, d, e, I, nb, up, hd, na, os, ag, w⟩ := h
  exact ⟨a, B, sI, pins, σ, H, cls, d, e, I, nb, up, .inr (.inr hd), na, os, ag, w⟩
end Wk
namespace Wk
open PySem PySem.Spec PyProof.Rows L2
theorem tuple_mul1 (l : Addr) (items : Array Value) (n : Nat) (dd : Option Addr) (sl : Array (Option Value)) (x : Int) (u : Tok) (c0 : (decide (x < -(2 ^ 63)) || decide (x ≥ 2 ^ 63)) = false) (c1 : (items.isEmpty || x == 1) = true) :
    Meets (Builtin.«tuple.__mul__» ⟨[.ref l, .int x u], []⟩) (fun _ R s => s.heap.get? l = some { cls := .type "tuple", dict := dd, data := .seq items n, slots := sl } ∧ R (.ok (.ret (Value.ref l))) s) :=
  .of_wp fun prog w A R s h => by
    obtain ⟨hp, g, d, tk, os⟩ := s
    obtain ⟨hl, h⟩ := h
    have f1 := AutoSeq1.idx_int
    wp_walk using wpAny_loadPart' hl
    repeat (first
      | (refine wpAny_ite_false (decide_eq_false (by rw [c0]; exact Bool.false_ne_true)) ?_; wp_walk using wpAny_loadPart' hl)
      | (refine wpAny_ite_true (decide_eq_true c1) ?_; wp_walk using wpAny_loadPart' hl))
    exact ⟨_, rfl, h⟩
def rRepT1 (K : PySem.W.Frag) : R2 := fun x y H Q => ∃ l k xs, x = .ref l ∧ y = .int k ∧ SqT K H l xs ∧ (xs = [] ∨ k = 1) ∧ 1 ≤ k ∧ k ≤ 1000 ∧ Q (.ref l) H
theorem op_repT1 {X : Cx} : OpR X (binaryOp .Mult) (rRepT1 X.K) := by
  intro pins s σ H x y v u Q I rx ry h
  obtain ⟨l, k, xs, rfl, rfl, hT, hne, h1, h2, q⟩ := h
  cases rx
  obtain ⟨t, rfl⟩ := ry
  obtain ⟨its, r, ⟨⟨cls, dd, data, sl⟩, ho, hc, n, hd⟩, hs⟩ := I.tuple hT
  simp only at hc hd
  subst hc hd
  have c0 : (decide (k < -(2 ^ 63)) || decide (k ≥ 2 ^ 63)) = false := by
    rw [decide_eq_false (by omega), decide_eq_false (by omega)] <;> rfl
  have c1 : (its.toArray.isEmpty || k == 1) = true := by
    rcases hne with rfl | rfl
    · cases r
      rfl
    · simp
  refine wpAny_binaryOp_repeat_ref (T := "tuple") (U := "int") (by decide) ⟨_, ho, rfl⟩ (fun s' => typeIs_int s' k t) noFill_tuple_mul F.fills_int_mul F.slot_int_rmul repeat_tuple F.slot_int_index.lookup
    (call_meets F.slot_int_rmul (typeIs_int s k t) F.entry_int_rmul (F.args_int_rmul_2 _ _) (int_rmul_tuple k t l its.toArray n dd sl)
      ⟨ho, rfl, ⟨_, ho, rfl⟩, call_meets F.slot_tuple_mul ⟨_, ho, rfl⟩ F.entry_tuple_mul (F.args_tuple_mul_2 _ _) (tuple_mul1 l its.toArray n dd sl k t c0 c1) ⟨ho, ?_⟩⟩)
  exact ⟨.ref l, H, I, rfl, q⟩
def rRepU (K : PySem.W.Frag) : R2 := fun x y H Q => rRepT1 K x y H Q ∨ rRepT K x y H Q
theorem op_repU {X : Cx} : OpR X (binaryOp .Mult) (rRepU X.K) := op_repT1.or op_repT
section
open Evl
variable {K : PySem.W.Frag} {M : Mm} {Φ : Dt → Mm → Prop}
theorem rpAll_rep {H : Hp} {vs : List V} {ds : List Dt} (r : RpAll K H vs ds) : ∀ n : Nat, RpAll K H (List.replicate n vs).flatten (List.replicate n ds).flatten
  | 0 => .nil
  | n + 1 => by
    rw [List.replicate_succ, List.replicate_succ, List.flatten_cons, List.flatten_cons]
    exact r.append (rpAll_rep r n)
theorem rx_repU {xs : List Dt} {k : Int} (h1 : 1 ≤ k) (h2 : k ≤ 1000) (hl : xs.length ≤ 1000) (z : Φ (.tup (List.replicate k.toNat xs).flatten) M) : RX K (rRepU K) (.tup xs) (.int k) M Φ := fun B H H1 vx vy o rx ry Q q => by
  obtain ⟨a, vs, rfl, h3, r⟩ := rx.tup_inv
  cases ry.int_inv
  by_cases hc : vs = [] ∨ k = 1
  · refine .inl ⟨a, k, vs, rfl, rfl, ex_t o.h h3, hc, h1, h2, q _ _ M H H1 z o (Ex.refl H) (.tup h3 ?_)⟩
    rcases hc with rfl | rfl
    · cases r
      have e : (List.replicate k.toNat ([] : List Dt)).flatten = [] := by
        rw [List.flatten_eq_nil_iff]
        intro l hl
        exact (List.mem_replicate.mp hl).2
      rw [e]
      exact .nil
    · have e : (List.replicate (Int.toNat 1) xs).flatten = xs := by
        show [xs].flatten = xs
        simp
      rw [e]
      exact r
  · refine .inr ⟨a, k, vs, rfl, rfl, ex_t o.h h3, fun e => hc (.inl e), ?_, h2, by rw [r.length]; exact hl, fun p hp => ?_⟩
    · have : k ≠ 1 := fun e => hc (.inr e)
      omega
    · have e1 := Ex.new (o := .tup (List.replicate k.toNat vs).flatten) (fresh_back o.h hp)
      exact q _ _ M _ _ z (o.grow hp) e1 (.tup (st_of upd_same) (rpAll_rep (r.mono e1) _))
end
end Wk
namespace Wk
open PySem PySem.Spec PyProof.Rows L2 Evl
section
variable {prog : Program} {w : World} {A : Around} {E : Value → Shared → Prop} {s : Shared} {t : Addr} {its : List Value} {ns : List Int} {Q : Value → Shared → Prop}
theorem sum_tuple (hh : A.handled = none) (ht : s.heap.IsTuple t its.toArray) (hi : IntsAre its ns)
    (h : ∀ h' tk t', (∀ b o, s.heap.get? b = some o → h'.get? b = some o) → Q (.int ns.sum t') { s with heap := h', toks := tk }) : wpAny (model prog w) A (call (.builtin "sum") [.ref t]) Q E s := by
  obtain ⟨xs, e⟩ := hi.allInts.items
  have hn : numsOf (intItems xs).toList = ns := by rw [← e]; exact hi.numsOf
  rw [nums_intItems] at hn
  rw [e] at ht
  have lt : t < s.heap.objs.size := by
    obtain ⟨o, ho, _⟩ := ht
    exact Heap.lt_size ho
  refine PySem.call_sum_walkG (wpAny_pyIter_tuple ht ?_)
  refine ⟨_, _, _, _, _, _, numAt xs, rfl, Walks.tuple (A := A.in1) hh s.heap.objs.size t (Nat.ne_of_lt lt) (intItems xs), ⟨⟨_, Heap.get?_push_size _ rfl, rfl, rfl⟩, ht.push _⟩, fun b hb => ?_, (fun _ _ => intItems_at), fun h' tk t' hk => ?_⟩
  · have es : (s.heap.push { cls := .type "tuple_iterator", data := .fields #[.ref t, .int 0 0] }).objs.size = s.heap.objs.size + 1 := Heap.size_push ..
    show b < (s.heap.push { cls := .type "tuple_iterator", data := .fields #[.ref t, .int 0 0] }).objs.size
    rw [es]
    rcases List.mem_cons.mp hb with rfl | hb
    · exact Nat.lt_succ_self _
    · rw [List.mem_singleton.mp hb]
      exact Nat.lt_succ_of_lt lt
  · have q := h h' tk t' fun b o eb => hk b o (fun hm => absurd (Heap.lt_size eb) (by rw [List.mem_singleton.mp hm]; exact Nat.lt_irrefl _)) (Heap.get?_push_of_some _ eb)
    have sz : (intItems xs).size = xs.size := by simp [intItems]
    rw [sz, preSum_eq, List.take_of_length_le (by simp), hn]
    exact q
end
def rSumA (K : PySem.W.Frag) : List V → Hp → VK → Prop := fun vs H Q => rSum K vs H Q ∨ ∃ (a : Addr) (ns : List Int), vs = [.ref a] ∧ SqT K H a (ns.map V.int) ∧ Q (.int ns.sum) H
section
variable {X : Cx}
theorem cr_sumA (hc : X.calm = true) : CallR X (.builtin "sum") (rSumA X.K) := by
  intro pins s σ H vs us Q I r h
  rcases h with h | ⟨a, ns, rfl, hs, q⟩
  · exact cr_sum hc pins s σ H vs us Q I r h
  · obtain ⟨its, rv, ht, _⟩ := I.tuple hs
    rw [Vals.ref1 r]
    obtain ⟨o, ho, h1, n, h2⟩ := ht
    exact sum_tuple (I.ok.hd hc) ⟨o, ho, h1, n, h2⟩ rv.ints fun h' tk t' hk => ⟨.int _, H, I.kept hk, ⟨_, rfl⟩, q⟩
end
section
variable {K : PySem.W.Frag} {ρ : Rho} {M : Mm} {Φ : Dt → Mm → Prop} {te : TE}
theorem cx_sumA {d : Dt} {ns : List Int} (hd : d = .lst (ns.map Dt.int) ∨ d = .frl (ns.map Dt.int) ∨ d = .tup (ns.map Dt.int)) (k : Φ (.int ns.sum) M) : CX K (rSumA K) [d] M Φ := fun B H H1 vs o rx Q q => by
  rcases hd with hd | hd | hd
  · exact .inl (cx_sum (.inl hd) k B H H1 vs o rx Q q)
  · exact .inl (cx_sum (.inr hd) k B H H1 vs o rx Q q)
  · subst hd
    cases rx with
    | cons rx rr =>
      cases rr
      obtain ⟨a, us, rfl, h1, r1⟩ := rx.tup_inv
      have e := r1.ints
      subst e
      exact .inr ⟨a, ns, rfl, ex_t o.h h1, q _ _ M H H1 k o (Ex.refl H) (.int _)⟩
end
end Wk
set_option autoImplicit false
namespace Wk
/-- 0, 1, .., n - 1 -/
def idS (n : Nat) : List Int := (List.range n).map fun (i : Nat) => (i : Int)
/-- what place j holds, for any j -/
def ext (p : List Int) (j : Int) : Int := p.getD (j % (p.length : Int)).toNat 0 + j / (p.length : Int) * (p.length : Int)
theorem perm_sum {l m : List Int} (h : l.Perm m) : l.sum = m.sum := by
  induction h with
  | nil => rfl
  | cons a _ ih => rw [List.sum_cons, List.sum_cons, ih]
  | swap a b l => rw [List.sum_cons, List.sum_cons, List.sum_cons, List.sum_cons]; omega
  | trans _ _ a b => rw [a, b]
/-- the places of a shift -/
structure IsSh (p : List Int) : Prop where
  l3 : 3 ≤ p.length
  l8 : p.length ≤ 8
  nd : (p.map fun x => x % (p.length : Int)).Nodup
  sm : p.sum = (idS p.length).sum
theorem IsSh.pos {p : List Int} (h : IsSh p) : 0 < p.length := Nat.lt_of_lt_of_le (by decide) h.l3
theorem IsSh.one {p : List Int} (h : IsSh p) {i j : Nat} {x y : Int} (hx : p[i]? = some x) (hy : p[j]? = some y) (e : x % (p.length : Int) = y % (p.length : Int)) : i = j := by
  have a : (p.map fun x => x % (p.length : Int))[i]? = some (x % (p.length : Int)) := by rw [List.getElem?_map, hx] <;> rfl
  have b : (p.map fun x => x % (p.length : Int))[j]? = some (y % (p.length : Int)) := by rw [List.getElem?_map, hy] <;> rfl
  have hi := (List.getElem?_eq_some_iff.mp a).1
  have hj := (List.getElem?_eq_some_iff.mp b).1
  have a' := (List.getElem?_eq_some_iff.mp a).2
  have b' := (List.getElem?_eq_some_iff.mp b).2
  have nd := List.pairwise_iff_getElem.mp h.nd
  apply Classical.byContradiction
  intro ne
  rcases Nat.lt_or_gt_of_ne ne with z | z
  · exact nd i j hi hj z (by rw [a', b', e])
  · exact nd j i hj hi z (by rw [a', b', e])
end Wk
set_option autoImplicit false
namespace Wk
/-- .. of the row without end -/
def sg (n : Nat) (i : Nat) (j : Int) : Int := if j % (n : Int) = (i : Int) then j - 1 else if (j + 1) % (n : Int) = (i : Int) then j + 1 else j
theorem IsSh.ne {p : List Int} (h : IsSh p) {i j : Nat} (hi : i < p.length) (hj : j < p.length) (ne : i ≠ j) : p[i] % (p.length : Int) ≠ p[j] % (p.length : Int) := fun e => ne (h.one (List.getElem?_eq_getElem hi) (List.getElem?_eq_getElem hj) e)
end Wk
set_option autoImplicit false
namespace Wk
end Wk
namespace Wk
open PySem PySem.Spec PyProof.Rows L2 Evl
end Wk
namespace Wk
open PySem L2 Evl
structure Tx (K : PySem.W.Frag) (mg : Str → Option Value) (C : Addr) : Prop where
  n_len : mg "len" = none
  n_max : mg "max" = none
  n_min : mg "min" = none
  n_range : mg "range" = none
  n_enumerate : mg "enumerate" = none
  n_zip : mg "zip" = none
  n_list : mg "list" = none
  n_tuple : mg "tuple" = none
  n_int : mg "int" = none
  n_str : mg "str" = none
  n_sum : mg "sum" = none
  n_isinstance : mg "isinstance" = none
  n_any : mg "any" = none
  n_repr : mg "repr" = none
  n_set : mg "set" = none
  n_abs : mg "abs" = none
  n_all : mg "all" = none
  n_sorted : mg "sorted" = none
  m_Polygon : mg "Polygon" = some (.ref C)
  m_LEAST : ∃ u, mg "LEAST_JOINTS" = some (.int 3 u)
  cl : Cls K C
  nP : NoAttr K C "points"
  is_ : IsC K C
  kit : PySem.W.kitOne K (.ref C) (.ref C) = some true
  most : ∃ mc u, ClX.CRead K C mc ∧ ClX.CVal K C mc "MOST_JOINTS" (.int 8) u
abbrev polyD (C : Addr) (ps : List Pt) : Dt := .obj C [("points", Pts ps)]
section
variable (K : PySem.W.Frag) (C : Addr)
abbrev spSource : Sp := SpD K (fun (x : List Int × Int) ds M => ds = [.frl (x.1.map Dt.int), .int x.2] ∧ 0 ≤ x.2 ∧ x.2 ≤ 100)
  (fun x M d M' => ∃ a c, d = .raw (.ref a) ∧ M a = none ∧ M' = put M a c ∧ IsSrc 0 c)
abbrev spDraw : Sp := SpD K (fun (x : Addr × Int × Int) ds M => ds = [.raw (.ref x.1), .int x.2.1] ∧ (∃ c, M x.1 = some c ∧ IsSrc x.2.2 c) ∧ 0 < x.2.1 ∧ x.2.1 < 2 ^ 4000 ∧ x.2.2 ≤ 2 ^ 40)
  (fun x M d M' => ∃ r c', d = .int r ∧ 0 ≤ r ∧ r < x.2.1 ∧ M' = put M x.1 c' ∧ IsSrc (x.2.2 + 1) c')
abbrev spMinus : Sp := SpP K (fun (x : Pt × Pt) => [P2 x.1, P2 x.2]) (fun _ => True) (fun x => P2 (subP x.1 x.2))
abbrev spCount : Sp := SpP K (fun (x : Str) => [.str x]) (fun x => x.length ≤ 1000000) (fun x => .bl (countF x))
abbrev spNumber : Sp := SpP K (fun (x : Str) => [.str x]) (fun x => x.length ≤ 1000000) (fun x => .bl (numF x))
abbrev spRead : Sp := SpP K (fun (ps : List Pt) => [.str (wPs ps)]) (fun ps => ps ≠ [] ∧ ps.length ≤ 100 ∧ Small ps) (fun ps => Lps ps)
abbrev spPairs : Sp := SpP K (fun (ps : List Pt) => [Pts ps]) (fun ps => 3 ≤ ps.length ∧ ps.length ≤ 8) (fun _ => .non)
abbrev spSides : Sp := SpP K (fun (ps : List Pt) => [Pts ps]) (fun ps => ps.length ≤ 1000) (fun ps => .lst (pairD (ps.map P2) ((rot ps).map P2)))
abbrev spInit : Sp := SpD K (fun (x : Addr × List Pt) ds M => ds = .raw (.ref x.1) :: x.2.map P2 ∧ M x.1 = some (.ins C []) ∧ 3 ≤ x.2.length ∧ x.2.length ≤ 8) (fun x M d M' => d = .non ∧ M' = put M x.1 (.ins C [("points", Pts x.2)]))
abbrev spInitB : Sp := SpD K (fun (x : Addr × List Pt) ds M => ds = [.raw (.ref x.1), Pts x.2] ∧ M x.1 = some (.ins C []) ∧ 3 ≤ x.2.length ∧ x.2.length ≤ 8) (fun x M d M' => d = .non ∧ M' = put M x.1 (.ins C [("points", Pts x.2)]))
abbrev spParse : Sp := SpP K (fun (ps : List Pt) => [.raw (.ref C), .str (wPs ps)]) (fun ps => 3 ≤ ps.length ∧ ps.length ≤ 8 ∧ Small ps) (fun ps => polyD C ps)
abbrev spSticks : Sp := SpP K (fun (ps : List Pt) => [polyD C ps]) (fun ps => ps.length ≤ 1000) (fun ps => Pts (sticksP ps))
abbrev spLenP : Sp := SpP K (fun (ps : List Pt) => [polyD C ps]) (fun ps => ps.length ≤ 1000) (fun ps => .int ps.length)
abbrev spMade : Sp := SpP K (fun (x : List Pt × Bool) => [if x.2 then Pts x.1 else Lps x.1]) (fun x => 3 ≤ x.1.length ∧ x.1.length ≤ 8 ∧ Small x.1) (fun x => polyD C x.1)
abbrev spClosed : Sp := SpD K (fun (x : Pt × List Pt × Int) ds M => ds = [P2 x.1, Lps x.2.1] ∧ 1 ≤ x.2.1.length ∧ x.2.1.length ≤ 20 ∧ Bd x.2.2 (x.1 :: x.2.1) ∧ 0 ≤ x.2.2) (fun x M d M' => M' = M ∧ ∃ ps, d = Pts ps ∧ ps.length = x.2.1.length ∧ Bd (30 * x.2.2) ps)
abbrev spDrawn : Sp := SpD K (fun (x : Addr × Nat × Int) ds M => ds = [.raw (.ref x.1), .int x.2.1] ∧ (∃ c, M x.1 = some c ∧ IsSrc x.2.2 c) ∧ 3 ≤ x.2.1 ∧ x.2.1 ≤ 8 ∧ x.2.2 ≤ 2 ^ 30) (fun x M d M' => ∃ ps c', d = Pts ps ∧ ps.length = x.2.1 ∧ Bd (10 ^ 9) ps ∧ M' = put M x.1 c' ∧ IsSrc (x.2.2 + 60) c')
abbrev spSticksL : Sp := SpP K (fun (ps : List Pt) => [Pts ps]) (fun ps => ps.length ≤ 8) (fun ps => Pts (sticksP ps))
abbrev spLaw : Sp := SpD K (fun (ns : List Int) ds M => ds = [.frl (ns.map Dt.int)] ∧ ns.length ≤ 63) (fun _ _ d _ => d = .bl true)
end
theorem bd_sticks {ps : List Pt} {B C : Int} (h : Bd B ps) (e : 2 * B ≤ C := by decide) : Bd C (sticksP ps) := fun p hp => by
  unfold sticksP at hp
  obtain ⟨⟨x, y⟩, hq, rfl⟩ := List.mem_map.mp hp
  have h1 := h x (List.of_mem_zip hq).1
  have h2 : y ∈ rot ps := (List.of_mem_zip hq).2
  unfold rot at h2
  have h3 := h y (by
    rcases List.mem_append.mp h2 with z | z
    · exact List.mem_of_mem_drop z
    · exact List.mem_of_mem_take z)
  unfold subP
  dsimp only
  omega
theorem sIx_at {n d j : Nat} : HT.sIx n d (some (j : Int)) = min j n := HT.sIx_nat n d j
theorem cutD_to (xs : List Dt) (j : Nat) : cutD xs none (some (j : Int)) = xs.take j := by
  unfold cutD
  rw [sIx_at, sIx_none, List.drop_zero, Nat.sub_zero]
  by_cases h : j ≤ xs.length
  · rw [Nat.min_eq_left h]
  · rw [Nat.min_eq_right (by omega), List.take_of_length_le (Nat.le_refl _), List.take_of_length_le (by omega)]
section
variable {K : PySem.W.Frag} {ρ : Rho} {M : Mm} {Φ : Dt → Mm → Prop} {te : TE} {t : TA} {E : XK} {C : Addr}
theorem ex_sticks {ps : List Pt} (hl : ps.length ≤ 1000) (h : EX K te ρ M (fun x M1 => x = polyD C ps ∧ Φ (Pts (sticksP ps)) M1)) : EX K (tProp C (spSticks K C) [] E te) ρ M Φ := ex_propP (h.mono fun x M1 ⟨e, z⟩ => ⟨_, e, ps, rfl, hl, z⟩)
end
end Wk
namespace Wk
open PySem L2 Evl
def l2 (p : Pt) : List Int := [p.1, p.2]
/-- joints one behind the other -/
def closP (p : Pt) : List Pt → List Pt
  | [] => [p]
  | s :: ss => p :: closP (addP p s) ss
theorem closP_len : ∀ {ss : List Pt} {p : Pt}, (closP p ss).length = ss.length + 1
  | [], _ => rfl
  | s :: ss, p => by
    unfold closP
    rw [List.length_cons, closP_len, List.length_cons]
theorem closP_snoc : ∀ {ss : List Pt} {p s : Pt}, closP p (ss ++ [s]) = closP p ss ++ [addP (ptD (closP p ss) ss.length) s]
  | [], _, _ => rfl
  | a :: ss, p, s => by
    show p :: closP (addP p a) (ss ++ [s]) = p :: (closP (addP p a) ss ++ [addP (ptD (p :: closP (addP p a) ss) (ss.length + 1)) s])
    rw [closP_snoc]
    rfl
theorem closP_at {p : Pt} {ss : List Pt} {i : Nat} {s : Pt} (h : ss[i]? = some s) : closP p (ss.take (i + 1)) = closP p (ss.take i) ++ [addP (ptD (closP p (ss.take i)) i) s] := by
  have hlt := (List.getElem?_eq_some_iff.mp h).1
  have e := (List.getElem?_eq_some_iff.mp h).2
  rw [List.take_succ_eq_append_getElem hlt, e, closP_snoc, List.length_take, Nat.min_eq_left (by omega)]
def sumP (ss : List Pt) : Pt := ((ss.map (·.1)).sum, (ss.map (·.2)).sum)
section
variable (K : PySem.W.Frag) (C BP NC : Addr)
abbrev spClosedE : Sp := SpP K (fun (x : Pt × List Pt) => [P2 x.1, Lps x.2]) (fun x => 1 ≤ x.2.length ∧ x.2.length ≤ 20) (fun x => Pts (closP x.1 x.2.dropLast))
end
theorem kit_self {K : PySem.W.Frag} {D : Addr} : PySem.W.kitOne K (.ref D) (.ref D) = some true := if_pos (beq_self_eq_true _)
theorem kit_ref {K : PySem.W.Frag} {C D : Addr} {b : Bool} (hcl : PySem.W.isClsIn K D = true) (ht : PySem.W.typeIn K (.ref D) = some (.type "type")) (hs : PySem.W.subIn K (.ref C) (.ref D) = some b) (hself : PySem.W.subIn K (.ref C) (.ref C) = some true) : PySem.W.kitOne K (.ref C) (.ref D) = some b := by
  by_cases h : C = D
  · subst h
    rw [hself] at hs
    cases hs
    exact kit_self
  · have e : ¬ ((Value.ref C == Value.ref D) = true) := fun e => h (Value.ref.inj (eq_of_beq e))
    have e2 : ((PySem.W.clsIn K D).isSome && PySem.W.typeIn K (.ref D) == some (.type "type")) = true := by
      rw [show (PySem.W.clsIn K D).isSome = true from hcl, ht]
      simp
    unfold PySem.W.kitOne
    rw [if_neg e]
    exact (if_pos e2).trans hs
end Wk
namespace Wk
open PySem L2 Evl
end Wk
namespace Wk
open PySem L2 Evl
section
variable {X : Cx} {k j : Nat} {C : Addr} {x m : Str} {sp : Sp} {p pos apos : Pos} {e o : Expr} {ta te : TE} {E : XK}
theorem pe_mR0 {pl : Sem Bool} (c : MetR X.prog X.w X.K X.mg X.base k C m sp) (hr : Room j X.A) (hk : k ≤ j) (he : PE X o ta)
    (ht : eval (.Call (.Attribute o m apos) [] [] pos) X.env = (do
      let ov ← eval o X.env
      standAt apos.atName
      let (f, first) ← holding [ov] (getMethod ov m pl)
      callWith pos f first (backTo pos (starEach [] X.env)) (backToKw pos (keywordEach [] X.env))) := by rfl) :
    PE X (.Call (.Attribute o m apos) [] [] pos) (tMeth C m sp [] E0 ta tNil) := by
  obtain ⟨f, hm, F⟩ := c.ex
  exact pe_methR0 he c.cl hm F (hr.mono hk) pass0 ht
end
abbrev I1 (p : List Int) : Dt := .tup (p.map Dt.int)
abbrev L1 (p : List Int) : Dt := .lst (p.map Dt.int)
theorem eqvAll_ints : ∀ (p q : List Int), PyData.eqvAll (toPs (p.map Dt.int)) (toPs (q.map Dt.int)) = decide (p = q)
  | [], [] => rfl
  | [], _ :: _ => rfl
  | _ :: _, [] => rfl
  | x :: p, y :: q => by
    rw [List.map_cons, List.map_cons, toPs, toPs]
    have ih := eqvAll_ints p q
    show (PyData.eqv (.int x) (.int y) && PyData.eqvAll (toPs (p.map Dt.int)) (toPs (q.map Dt.int))) = _
    rw [ih]
    show ((x == y) && decide (p = q)) = _
    by_cases h1 : x = y <;> by_cases h2 : p = q <;> simp [h1, h2]
end Wk
namespace Wk
open PySem L2 Evl
section
open PySem.Spec PyProof.Rows
variable {X : Cx} {o e : Expr} {es : List Expr} {to : TE} {t : TA} {name : Str} {apos cpos : Pos} {T id : String} {r : V → List V → Hp → VK → Prop}
theorem pe_bmK (K : PySem.W.Frag) (h : X.K = K) (pa : PlainAttrs T) (slot : Slot T name id) (hty : typeOf (.builtin id) = pure (.type "method_descriptor")) (hm : MtR X id r) (ho : PE X o to) (ha : PA X (e :: es) t)
    (h1 : attributeBase o name X.env (eval o X.env) = eval o X.env := by rfl) (h2 : ((backTo cpos (starEach (e :: es) X.env)).all (fun x => !x.1) && (backToKw cpos (keywordEach [] X.env)).all (fun x => x.1.isSome) && decide ((e :: es).length + ([] : List Keyword).length + (if ([] : List Keyword).isEmpty then 0 else 1) < 30)) = true := by rfl)
    (h3 : (apos.endLine == cpos.line) = true := by rfl) (h4 : starEach (e :: es) X.env = (false, eval e X.env) :: starEach es X.env := by rfl) (h5 : (backTo cpos (starEach es X.env)).any (·.1) = false := by rfl) :
    PE X (.Call (.Attribute o name apos) (e :: es) [] cpos) (tBM K T r to t) := by
  subst h
  exact pe_bm pa slot hty hm ho ha h1 h2 h3 h4 h5
end
section
variable (K : PySem.W.Frag) (S BW : Addr)
abbrev spShuf : Sp := SpD K (fun (x : Addr × List Dt × Int) ds M => ds = [.raw (.ref x.1), .lst x.2.1] ∧ (∃ c, M x.1 = some c ∧ IsSrc x.2.2 c) ∧ x.2.1.length ≤ 100 ∧ x.2.2 ≤ 2 ^ 30)
  (fun x M d M' => ∃ ys c', d = .lst ys ∧ ys.Perm x.2.1 ∧ M' = put M x.1 c' ∧ IsSrc (x.2.2 + x.2.1.length) c')
end
theorem u65 {k : Nat} {A : Around} (hr : Room k A) : A.units + 65 < cLine := by have := hr.un; omega
end Wk
namespace Wk
open PySem L2 Evl
section
variable {K : PySem.W.Frag} {ρ : Rho} {M : Mm} {Φ : Dt → Mm → Prop} {te : TE} {t : TA} {E : XK} {C S BW BJ : Addr}
theorem cx_min2 {i j : Int} (k : Φ (.int (if j < i then j else i)) M) : CX K (fun xs H Q => ∃ i j, xs = [.int i, .int j] ∧ Q (.int (if j < i then j else i)) H) [.int i, .int j] M Φ := fun B H H1 vs o r Q q => by
  cases r with
  | cons r rr =>
    cases rr with
    | cons r2 rr =>
      cases rr
      exact ⟨i, j, by rw [r.int_inv, r2.int_inv], q _ _ M H H1 k o (Ex.refl H) (.int _)⟩
end
end Wk
namespace Wk
open PySem L2 Evl
def top (i : Nat) : Stmt := PySem.Challenge.pw_walkagon_k09_reasons_checked.main.body.getD i (.Pass ⟨0, 0, 0, 0⟩)
abbrev s_mixed : Stmt := top 6
theorem sc_mixed : FnScope ["factor", "row", "other_factor", "other", "item", "beside"] ["factor", "row", "other_factor", "other"] (defScope s_mixed) := ⟨rfl, rfl, rfl, by decide +kernel, rfl, by decide +kernel, by decide +kernel⟩
abbrev s_cleared : Stmt := top 7
theorem sc_cleared : FnScope ["row", "other", "column", "quotient"] ["row", "other", "column"] (defScope s_cleared) := ⟨rfl, rfl, rfl, by decide +kernel, rfl, by decide +kernel, by decide +kernel⟩
abbrev s_basis : Stmt := top 8
theorem sc_basis : FnScope ["vectors", "count", "first", "second", "index", "vector", "unit", "rest", "_", "at"] ["vectors"] (defScope s_basis) := ⟨rfl, rfl, rfl, by decide +kernel, rfl, by decide +kernel, by decide +kernel⟩
abbrev s_minus : Stmt := top 10
theorem sc_minus : FnScope ["first", "second"] ["first", "second"] (defScope s_minus) := ⟨rfl, rfl, rfl, by decide +kernel, rfl, by decide +kernel, by decide +kernel⟩
abbrev s_differences : Stmt := top 11
theorem sc_differences : FnScope ["vectors", "vector"] ["vectors"] (defScope s_differences) := ⟨rfl, rfl, rfl, by decide +kernel, rfl, by decide +kernel, by decide +kernel⟩
abbrev s_Reason_told : Stmt := inClass (top 13) 0
theorem sc_Reason_told : FnScope ["self"] ["self"] (defScope s_Reason_told) := ⟨rfl, rfl, rfl, by decide +kernel, rfl, by decide +kernel, by decide +kernel⟩
abbrev s_Reason_holds : Stmt := inClass (top 13) 1
theorem sc_Reason_holds : FnScope ["self", "start", "goal"] ["self", "start", "goal"] (defScope s_Reason_holds) := ⟨rfl, rfl, rfl, by decide +kernel, rfl, by decide +kernel, by decide +kernel⟩
abbrev s_Reason_eq : Stmt := inClass (top 13) 2
theorem sc_Reason_eq : FnScope ["self", "other"] ["self", "other"] (defScope s_Reason_eq) := ⟨rfl, rfl, rfl, by decide +kernel, rfl, by decide +kernel, by decide +kernel⟩
abbrev s_JointCount_holds : Stmt := inClass (top 14) 1
theorem sc_JointCount_holds : FnScope ["self", "start", "goal"] ["self", "start", "goal"] (defScope s_JointCount_holds) := ⟨rfl, rfl, rfl, by decide +kernel, rfl, by decide +kernel, by decide +kernel⟩
abbrev s_JointCount_eq : Stmt := inClass (top 14) 2
theorem sc_JointCount_eq : FnScope ["self", "other"] ["self", "other"] (defScope s_JointCount_eq) := ⟨rfl, rfl, rfl, by decide +kernel, rfl, by decide +kernel, by decide +kernel⟩
abbrev s_StickCount_init : Stmt := inClass (top 15) 0
theorem sc_StickCount_init : FnScope ["self", "stick"] ["self", "stick"] (defScope s_StickCount_init) := ⟨rfl, rfl, rfl, by decide +kernel, rfl, by decide +kernel, by decide +kernel⟩
abbrev s_StickCount_holds : Stmt := inClass (top 15) 2
theorem sc_StickCount_holds : FnScope ["self", "start", "goal"] ["self", "start", "goal"] (defScope s_StickCount_holds) := ⟨rfl, rfl, rfl, by decide +kernel, rfl, by decide +kernel, by decide +kernel⟩
abbrev s_StickCount_eq : Stmt := inClass (top 15) 3
theorem sc_StickCount_eq : FnScope ["self", "other"] ["self", "other"] (defScope s_StickCount_eq) := ⟨rfl, rfl, rfl, by decide +kernel, rfl, by decide +kernel, by decide +kernel⟩
abbrev s_Congruence_init : Stmt := inClass (top 16) 0
theorem sc_Congruence_init : FnScope ["self", "a", "b", "modulus"] ["self", "a", "b", "modulus"] (defScope s_Congruence_init) := ⟨rfl, rfl, rfl, by decide +kernel, rfl, by decide +kernel, by decide +kernel⟩
abbrev s_Congruence_holds : Stmt := inClass (top 16) 2
theorem sc_Congruence_holds : FnScope ["self", "start", "goal", "agree", "vector"] ["self", "start", "goal"] (defScope s_Congruence_holds) := ⟨rfl, rfl, rfl, by decide +kernel, rfl, by decide +kernel, by decide +kernel⟩
abbrev s_Congruencevanishes : Stmt := inClass (top 16) 3
theorem sc_Congruencevanishes : FnScope ["self", "vector", "rest"] ["self", "vector"] (defScope s_Congruencevanishes) := ⟨rfl, rfl, rfl, by decide +kernel, rfl, by decide +kernel, by decide +kernel⟩
abbrev s_Congruence_eq : Stmt := inClass (top 16) 4
theorem sc_Congruence_eq : FnScope ["self", "other"] ["self", "other"] (defScope s_Congruence_eq) := ⟨rfl, rfl, rfl, by decide +kernel, rfl, by decide +kernel, by decide +kernel⟩
abbrev s_congruences : Stmt := top 17
theorem sc_congruences : FnScope ["polygon", "first", "second", "scale"] ["polygon"] (defScope s_congruences) := ⟨rfl, rfl, rfl, by decide +kernel, rfl, by decide +kernel, by decide +kernel⟩
abbrev s_reason_against : Stmt := top 18
theorem sc_reason_against : FnScope ["start", "goal", "differing", "reason", "stick"] ["start", "goal"] (defScope s_reason_against) := ⟨rfl, rfl, rfl, by decide +kernel, rfl, by decide +kernel, by decide +kernel⟩
abbrev s_is_count : Stmt := top 20
theorem sc_is_count : FnScope ["word"] ["word"] (defScope s_is_count) := ⟨rfl, rfl, rfl, by decide +kernel, rfl, by decide +kernel, by decide +kernel⟩
abbrev s_is_number : Stmt := top 21
theorem sc_is_number : FnScope ["word"] ["word"] (defScope s_is_number) := ⟨rfl, rfl, rfl, by decide +kernel, rfl, by decide +kernel, by decide +kernel⟩
abbrev s_read_points : Stmt := top 22
theorem sc_read_points : FnScope ["text", "points", "index", "part", "words"] ["text"] (defScope s_read_points) := ⟨rfl, rfl, rfl, by decide +kernel, rfl, by decide +kernel, by decide +kernel⟩
abbrev s_check_pairs : Stmt := top 25
theorem sc_check_pairs : FnScope ["pairs", "index", "pair"] ["pairs"] (defScope s_check_pairs) := ⟨rfl, rfl, rfl, by decide +kernel, rfl, by decide +kernel, by decide +kernel⟩
abbrev s_sides_of : Stmt := top 26
theorem sc_sides_of : FnScope ["points"] ["points"] (defScope s_sides_of) := ⟨rfl, rfl, rfl, by decide +kernel, rfl, by decide +kernel, by decide +kernel⟩
abbrev s_Polygon_init : Stmt := inClass (top 27) 1
theorem sc_Polygon_init : FnScope ["self", "points"] ["self", "points"] (defScope s_Polygon_init) := ⟨rfl, rfl, rfl, by decide +kernel, rfl, by decide +kernel, by decide +kernel⟩
abbrev s_Polygon_parse : Stmt := inClass (top 27) 2
theorem sc_Polygon_parse : FnScope ["cls", "text", "points"] ["cls", "text"] (defScope s_Polygon_parse) := ⟨rfl, rfl, rfl, by decide +kernel, rfl, by decide +kernel, by decide +kernel⟩
abbrev s_Polygon_sticks : Stmt := inClass (top 27) 5
theorem sc_Polygon_sticks : FnScope ["self", "point", "after"] ["self"] (defScope s_Polygon_sticks) := ⟨rfl, rfl, rfl, by decide +kernel, rfl, by decide +kernel, by decide +kernel⟩
abbrev s_Polygon_len : Stmt := inClass (top 27) 12
theorem sc_Polygon_len : FnScope ["self"] ["self"] (defScope s_Polygon_len) := ⟨rfl, rfl, rfl, by decide +kernel, rfl, by decide +kernel, by decide +kernel⟩
abbrev s__law_source : Stmt := top 29
theorem sc__law_source : FnScope ["script", "index", "cell"] ["script", "index"] (defScope s__law_source) := ⟨rfl, rfl, rfl, by decide +kernel, rfl, by decide +kernel, by decide +kernel⟩
abbrev s__law_draw : Stmt := top 30
theorem sc__law_draw : FnScope ["source", "bound", "digit", "mixed_v"] ["source", "bound"] (defScope s__law_draw) := ⟨rfl, rfl, rfl, by decide +kernel, rfl, by decide +kernel, by decide +kernel⟩
abbrev s__law_shuffled : Stmt := top 31
theorem sc__law_shuffled : FnScope ["source", "things", "left", "step"] ["source", "things"] (defScope s__law_shuffled) := ⟨rfl, rfl, rfl, by decide +kernel, rfl, by decide +kernel, by decide +kernel⟩
abbrev s__law_made : Stmt := top 32
theorem sc__law_made : FnScope ["points", "x", "y"] ["points"] (defScope s__law_made) := ⟨rfl, rfl, rfl, by decide +kernel, rfl, by decide +kernel, by decide +kernel⟩
abbrev s__law_closed : Stmt := top 33
theorem sc__law_closed : FnScope ["start", "sticks", "points", "x", "y"] ["start", "sticks"] (defScope s__law_closed) := ⟨rfl, rfl, rfl, by decide +kernel, rfl, by decide +kernel, by decide +kernel⟩
abbrev s__law_drawn : Stmt := top 34
theorem sc__law_drawn : FnScope ["source", "sides", "way", "size", "start", "menu", "sticks", "rest", "points", "joint", "index", "x", "y"] ["source", "sides"] (defScope s__law_drawn) := ⟨rfl, rfl, rfl, by decide +kernel, rfl, by decide +kernel, by decide +kernel⟩
abbrev s__law_sticks : Stmt := top 35
theorem sc__law_sticks : FnScope ["points", "following", "here", "after"] ["points"] (defScope s__law_sticks) := ⟨rfl, rfl, rfl, by decide +kernel, rfl, by decide +kernel, by decide +kernel⟩
abbrev s__law_rearranged : Stmt := top 39
theorem sc__law_rearranged : FnScope ["source", "points", "reach", "sticks", "x", "y", "step", "first", "second", "amount"] ["source", "points", "reach"] (defScope s__law_rearranged) := ⟨rfl, rfl, rfl, by decide +kernel, rfl, by decide +kernel, by decide +kernel⟩
abbrev s__law_due : Stmt := top 41
theorem sc__law_due : FnScope ["reason", "start", "goal", "values", "x", "y", "motion", "value"] ["reason", "start", "goal"] (defScope s__law_due) := ⟨rfl, rfl, rfl, by decide +kernel, rfl, by decide +kernel, by decide +kernel⟩
abbrev s__law_text : Stmt := top 42
theorem sc__law_text : FnScope ["reason", "form"] ["reason"] (defScope s__law_text) := ⟨rfl, rfl, rfl, by decide +kernel, rfl, by decide +kernel, by decide +kernel⟩
abbrev s__law_key : Stmt := top 43
theorem sc__law_key : FnScope ["reason", "kinds"] ["reason"] (defScope s__law_key) := ⟨rfl, rfl, rfl, by decide +kernel, rfl, by decide +kernel, by decide +kernel⟩
abbrev s__law_some_reasons : Stmt := top 44
theorem sc__law_some_reasons : FnScope ["source", "start", "goal", "found", "turn", "first", "second", "told"] ["source", "start", "goal"] (defScope s__law_some_reasons) := ⟨rfl, rfl, rfl, by decide +kernel, rfl, by decide +kernel, by decide +kernel⟩
abbrev s_law : Stmt := top 45
theorem sc_law : FnScope ["script", "place", "source", "start", "goals", "goal", "reasons", "reason", "due", "other", "x", "y"] ["script"] (defScope s_law) := ⟨rfl, rfl, rfl, by decide +kernel, rfl, by decide +kernel, by decide +kernel⟩
end Wk
namespace Wk
open PySem L2 Evl
abbrev si_told_JC : Stmt := inClass (top 14) 0
abbrev si_told_SC : Stmt := inClass (top 15) 1
abbrev si_told_CG : Stmt := inClass (top 16) 1
end Wk
namespace Wk
open PySem L2 Evl
section
theorem op_in_seqK {X : Cx} {K : PySem.W.Frag} (e : X.K = K) : OpR X (compareOp .In) (rIn K false) := by
  subst e
  exact op_in_seq
variable {K : PySem.W.Frag} {M : Mm} {Φ : Dt → Mm → Prop}
end
end Wk
namespace Wk
end Wk
namespace Wk
open PySem L2 Evl
theorem sum_diff : ∀ {xs ys : List Pt}, xs.length = ys.length → (((xs.zip ys).map fun q => subP q.2 q.1).map (·.1)).sum = (ys.map (·.1)).sum - (xs.map (·.1)).sum ∧ (((xs.zip ys).map fun q => subP q.2 q.1).map (·.2)).sum = (ys.map (·.2)).sum - (xs.map (·.2)).sum
  | [], [], _ => by simp
  | x :: xs, y :: ys, h => by
    have ih := sum_diff (xs := xs) (ys := ys) (by simpa using h)
    simp only [List.zip_cons_cons, List.map_cons, List.sum_cons]
    rw [ih.1, ih.2]
    unfold subP
    dsimp only
    omega
theorem sum_rot {f : Pt → Int} (ps : List Pt) : ((rot ps).map f).sum = (ps.map f).sum := by
  unfold rot
  rw [List.map_append, List.sum_append, Int.add_comm, ← List.sum_append, ← List.map_append, List.take_append_drop]
theorem sum_sticks (ps : List Pt) : sumP (sticksP ps) = (0, 0) := by
  have h := sum_diff (xs := ps) (ys := rot ps) (by rw [rot_length])
  unfold sumP sticksP
  rw [h.1, h.2, sum_rot, sum_rot]
  ext <;> dsimp only <;> omega
theorem sumP_perm {a b : List Pt} (h : a.Perm b) : sumP a = sumP b := by
  unfold sumP
  rw [perm_sum (h.map _), perm_sum (h.map _)]
theorem clos_diffs : ∀ (ss : List Pt) (s t : Pt), (((closP s ss).zip ((closP s ss).tail ++ [t])).map fun q => subP q.2 q.1) = ss ++ [subP t (addP s (sumP ss))]
  | [], s, t => by
    show [subP t s] = [subP t (addP s (sumP []))]
    have e : addP s (sumP []) = s := by
      unfold addP sumP
      simp
    rw [e]
  | a :: ss, s, t => by
    have ih := clos_diffs ss (addP s a) t
    have hc : closP (addP s a) ss = addP s a :: (closP (addP s a) ss).tail := by
      cases ss <;> rfl
    have e1 : subP (addP s a) s = a := by
      unfold addP subP
      ext <;> dsimp only <;> omega
    have e2 : addP (addP s a) (sumP ss) = addP s (sumP (a :: ss)) := by
      unfold addP sumP
      simp only [List.map_cons, List.sum_cons]
      ext <;> dsimp only <;> omega
    show (((s :: closP (addP s a) ss).zip (closP (addP s a) ss ++ [t])).map fun q => subP q.2 q.1) = _
    rw [hc, List.cons_append, List.zip_cons_cons, List.map_cons, ← hc, ih]
    show subP (addP s a) s :: _ = _
    rw [e1, e2] <;> rfl
theorem sum_init {es : List Pt} {l : Pt} (h : sumP (es ++ [l]) = (0, 0)) (s : Pt) : subP s (addP s (sumP es)) = l := by
  unfold sumP at h
  rw [List.map_append, List.map_append, List.sum_append, List.sum_append] at h
  have h1 := congrArg Prod.fst h
  have h2 := congrArg Prod.snd h
  simp only [List.map_cons, List.map_nil, List.sum_cons, List.sum_nil] at h1 h2
  unfold subP addP sumP
  ext <;> dsimp only <;> omega
theorem sticks_clos {es : List Pt} (hne : es ≠ []) (h : sumP es = (0, 0)) (s : Pt) : sticksP (closP s es.dropLast) = es := by
  have e0 : es = es.dropLast ++ [es.getLast hne] := (List.dropLast_concat_getLast hne).symm
  have hc : closP s es.dropLast = s :: (closP s es.dropLast).tail := by
    cases es.dropLast <;> rfl
  have e1 : rot (closP s es.dropLast) = (closP s es.dropLast).tail ++ [s] := by
    unfold rot
    rw [hc] <;> rfl
  unfold sticksP
  rw [e1, clos_diffs, sum_init (l := es.getLast hne) (by rw [← e0]; exact h) s, ← e0]
end Wk
namespace Wk
open PySem L2 Evl
end Wk
namespace Wk
open PySem L2 Evl
theorem closP_small : ∀ {ss : List Pt} {p : Pt} {A D : Nat}, p.1.natAbs ≤ A ∧ p.2.natAbs ≤ A → (∀ s ∈ ss, s.1.natAbs ≤ D ∧ s.2.natAbs ≤ D) → ∀ q ∈ closP p ss, q.1.natAbs ≤ A + ss.length * D ∧ q.2.natAbs ≤ A + ss.length * D
  | [], p, A, D, hp, _, q, hq => by
    rw [show q = p from List.mem_singleton.mp hq]
    simpa using hp
  | s :: ss, p, A, D, hp, hs, q, hq => by
    have e : (s :: ss).length * D = D + ss.length * D := by
      rw [List.length_cons, Nat.add_mul, Nat.one_mul, Nat.add_comm]
    rcases List.mem_cons.mp (show q ∈ p :: closP (addP p s) ss from hq) with rfl | hq
    · omega
    · have h0 := hs s List.mem_cons_self
      have ih := closP_small (ss := ss) (p := addP p s) (A := A + D) (D := D) (by
        unfold addP
        dsimp only
        omega) (fun z hz => hs z (List.mem_cons_of_mem _ hz)) q hq
      omega
end Wk
namespace Hd
open PySem L2 PyProof PyProof.Rows
abbrev FV : Type := Option (Str × Str × Arguments × FuncBody × Scope × Addr × Addr)
def fnV (K : PySem.W.Frag) (a : Addr) : FV := match K.lookup a with
  | some ⟨_, _, .func fd, _⟩ => some (fd.name, fd.qualname, fd.params, fd.body, fd.scope, fd.globals, fd.builtins)
  | _ => none
structure FD where
  at_ : PySem.W.Frag → Addr
  name : Str
  qual : Str
  st : Stmt
def FD.val (d : FD) : FV := some (d.name, d.qual, defArgs d.st, .stmts (defBody d.st), defScope d.st, mainGlobals, builtinsNs)
def fnB (K : PySem.W.Frag) (a : Addr) (q : Str) (clo : List (Str × Addr)) : Bool := match K.lookup a with
  | some ⟨_, _, .func fd, _⟩ => decide (fd.closure = clo) && (decide (fd.defaults = .none) && PySem.W.codeIn K fd.code q)
  | _ => false
def kwOf (K : PySem.W.Frag) (a : Addr) : Value := match K.lookup a with
  | some ⟨_, _, .func fd, _⟩ => fd.kwdefaults
  | _ => .none
def cdOf (K : PySem.W.Frag) (a : Addr) : Value := match K.lookup a with
  | some ⟨_, _, .func fd, _⟩ => fd.code
  | _ => .none
def ccOf (K : PySem.W.Frag) (a : Addr) : Addr := match K.lookup a with
  | some ⟨_, _, .func fd, _⟩ => (match fd.closure with
    | [(_, c)] => c
    | _ => 0)
  | _ => 0
def refOf : Value → Addr
  | .ref a => a
  | _ => 0
theorem ba {a b : Bool} (h : (a && b) = true) : a = true ∧ b = true := Bool.and_eq_true_iff.mp h
theorem fn_at {K : PySem.W.Frag} {a : Addr} {nm q : Str} {st : Stmt} {clo : List (Str × Addr)} (e : fnV K a = some (nm, q, defArgs st, .stmts (defBody st), defScope st, mainGlobals, builtinsNs)) (b : fnB K a q clo = true) :
    ∃ oc od doc pm an ct sl, K.lookup a = some ⟨oc, od, .func (PySem.W.fnX nm q (defArgs st) (defBody st) (defScope st) clo .none (kwOf K a) doc pm an (cdOf K a) ct), sl⟩ ∧ PySem.W.codeIn K (cdOf K a) q = true := by
  unfold fnV at e
  unfold fnB at b
  unfold kwOf cdOf
  cases h : K.lookup a with
  | none =>
    rw [h] at b
    cases b
  | some o =>
    obtain ⟨oc, od, dt, sl⟩ := o
    rw [h] at b e
    cases dt with
    | func fd =>
      obtain ⟨n1, n2, n3, n4, n5, n6, n7, n8, n9, n10, n11, n12, n13, n14, n15⟩ := fd
      obtain ⟨b1, b⟩ := ba b
      obtain ⟨b2, b3⟩ := ba b
      have e2 := Option.some.inj e
      simp only [Prod.mk.injEq] at e2
      obtain ⟨h1, h2, h3, h4, h5, h6, h7⟩ := e2
      have c1 := of_decide_eq_true b1
      have c2 := of_decide_eq_true b2
      dsimp only at c1 c2
      subst h1 h2 h3 h4 h5 h6 h7 c1 c2
      exact ⟨oc, od, n10, n11, n12, n14, sl, rfl, b3⟩
    | _ => cases b
def pa (K : PySem.W.Frag) (C : Addr) (m : Str) : Addr := match PySem.W.findCls K (.ref C) (.type "type") m with
  | some (.get _ (.ref p) _ _) => p
  | _ => 0
def ra (K : PySem.W.Frag) (p : Addr) (T : String) : Addr := match PySem.W.recIn K p T with
  | some (.ref f :: _) => f
  | _ => 0
def rr (K : PySem.W.Frag) (p : Addr) (T : String) : List Value := match PySem.W.recIn K p T with
  | some (_ :: r) => r
  | _ => []
def tkO : Option (Option Value) → Tok
  | some (some (.int _ t)) => t
  | some (some (.str _ t)) => t
  | _ => 0
def tkC : Option PySem.W.CFound → Tok
  | some (.val (.int _ t)) => t
  | _ => 0
/-- found on the class: a value, a descriptor -/
def valB (K : PySem.W.Frag) (C : Addr) (m : Str) (i : Int) : Bool := match PySem.W.findCls K (.ref C) (.type "type") m with
  | some (.val (.int j _)) => decide (j = i)
  | _ => false
theorem val_at {K : PySem.W.Frag} {C : Addr} {m : Str} {i : Int} (b : valB K C m i = true) : PySem.W.findCls K (.ref C) (.type "type") m = some (.val (.int i (tkC (PySem.W.findCls K (.ref C) (.type "type") m)))) := by
  unfold valB at b
  split at b
  · rename_i j t h
    rw [h, ← of_decide_eq_true b]
    rfl
  · cases b
def getB (K : PySem.W.Frag) (C : Addr) (m : Str) (g : String) : Bool := match PySem.W.findCls K (.ref C) (.type "type") m with
  | some (.get a (.ref _) b c) => decide (a = .builtin g) && (decide (b = .none) && decide (c = .ref C))
  | _ => false
theorem get_at {K : PySem.W.Frag} {C : Addr} {m : Str} {g : String} (b : getB K C m g = true) : PySem.W.findCls K (.ref C) (.type "type") m = some (.get (.builtin g) (.ref (pa K C m)) .none (.ref C)) := by
  unfold getB at b
  split at b
  · rename_i x p y z h
    obtain ⟨b1, b2⟩ := ba b
    obtain ⟨b2, b3⟩ := ba b2
    unfold pa
    rw [h, of_decide_eq_true b1, of_decide_eq_true b2, of_decide_eq_true b3]
  · cases b
def fiOf (K : PySem.W.Frag) (a : Addr) : Str := match K.lookup a with
  | some ⟨_, _, .fields vs, _⟩ => (match (vs[2]? : Option Value) with
    | some (Value.str s _) => s
    | _ => Str.empty)
  | _ => Str.empty
def fldB (K : PySem.W.Frag) (a : Addr) : Bool := match K.lookup a with
  | some ⟨_, _, .fields vs, _⟩ => (match (vs[2]? : Option Value) with
    | some (Value.str _ _) => true
    | _ => false)
  | _ => false
theorem fld_at {K : PySem.W.Frag} {a : Addr} (b : fldB K a = true) : ∃ ccl cdd vs ccs tf, K.lookup a = some ⟨ccl, cdd, .fields vs, ccs⟩ ∧ vs[2]? = some (Value.str (fiOf K a) tf) := by
  unfold fldB at b
  unfold fiOf
  cases h : K.lookup a with
  | none =>
    rw [h] at b
    cases b
  | some o =>
    obtain ⟨oc, od, dt, sl⟩ := o
    rw [h] at b
    cases dt with
    | fields vs =>
      dsimp only at b ⊢
      split at b
      · rename_i s t e
        exact ⟨oc, od, vs, sl, t, rfl, by rw [e]⟩
      · cases b
    | _ => cases b
def celB (K : PySem.W.Frag) (a A : Addr) : Bool := match K.lookup a with
  | some ⟨_, _, .cell (some v), _⟩ => decide (v = .ref A)
  | _ => false
theorem cel_at {K : PySem.W.Frag} {a A : Addr} (b : celB K a A = true) : ∃ cl cld csl, K.lookup a = some ⟨cl, cld, .cell (some (.ref A)), csl⟩ := by
  unfold celB at b
  split at b
  · rename_i oc od v sl h
    exact ⟨oc, od, sl, by rw [h, of_decide_eq_true b]⟩
  · cases b
def clB (K : PySem.W.Frag) (a : Addr) : Bool := (PySem.W.clsIn K a).isSome
theorem cls_at {K : PySem.W.Frag} {a : Addr} (b : clB K a = true) : ∃ cd, PySem.W.clsIn K a = some cd := Option.isSome_iff_exists.mp b
abbrev Al : Type := Bool × List FV
def obs (ok : PySem.W.Frag → Bool) (fn : List FD) (K : PySem.W.Frag) : Al := (ok K, fn.map fun d => fnV K (d.at_ K))
def val (fn : List FD) : Al := (true, fn.map FD.val)
def Says (ok : PySem.W.Frag → Bool) (fn : List FD) (K : PySem.W.Frag) : Prop := obs ok fn K = val fn
def obsG (as : List Addr) (ok : PySem.W.Frag → Bool) (fn : List FD) (g : Addr → Option Obj) : Al := obs ok fn (He.frG g as)
def hook (as : List Addr) (ok : PySem.W.Frag → Bool) (fn : List FD) : PySem.W.Hook where
  α := Al
  obs := fun s => obsG as ok fn s.heap.get?
  val := fun _ => val fn
  says := fun _ h => ∃ K : PySem.W.Frag, K.In h ∧ Says ok fn K
  of := fun _ _ e => ⟨_, He.frG_in, e⟩
  keeps := fun _ _ _ ⟨K, hK, c⟩ k => ⟨K, PySem.W.Frag.In.keeps hK k, c⟩
theorem obsG_eq {as : List Addr} {ok : PySem.W.Frag → Bool} {fn : List FD} {g : Addr → Option Obj} {s : Shared} (h : ∀ a, g a = s.heap.get? a) : obsG as ok fn g = (hook as ok fn).obs s := by
  have e : g = s.heap.get? := funext h
  rw [e] <;> rfl
section
variable {b : PySem.W.Frag → Bool} {ds : List FD} {K : PySem.W.Frag}
theorem Says.ok (c : Says b ds K) : b K = true := congrArg (fun z : Al => z.1) c
theorem Says.fn (c : Says b ds K) (i : Nat) {d : FD} (h : ds[i]? = some d := by rfl) : fnV K (d.at_ K) = d.val := by
  have e : ds.map (fun d => fnV K (d.at_ K)) = ds.map FD.val := congrArg (fun z : Al => z.2) c
  have e2 : (ds.map fun d => fnV K (d.at_ K))[i]? = (ds.map FD.val)[i]? := by rw [e]
  rw [List.getElem?_map, List.getElem?_map, h] at e2
  exact Option.some.inj e2
end
end Hd
namespace Wk
open PySem L2 Evl
/-- a law's walk over a head that gives the written part by its facts -/
theorem top_walkE {l : PySem.W.OpenLaw} {n k : Nat} {q : Program} {loose : List Str} {XP : (Str → Option Value) → Heap → Prop} {YP : World → Heap → Prop} {d : DefRec} {CX : CXT} {sp : PySem.W.Frag → Sp}
    (hn : l.most = some n) (small : n ≤ sizeLine) (hdf : d.params.defaults = []) (room : Room k callerA)
    (F : ∀ (w : World) (mg : Str → Option Value) (fa : Addr) (h : Heap), YP w h → h.Ns mainGlobals mg → mg d.name = some (.ref fa) → ∃ K : PySem.W.Frag, K.In h ∧ ∀ base : Heap, K.In base → base.Ns mainGlobals mg → FnG l.prog w K mg base CX k fa (sp K))
    (hsp : ∀ (K : PySem.W.Frag) (H : Hp) (a : Addr) (ns : List Int), ns.length ≤ n → SqL K H a (ns.map V.int) → sp K [.ref a] H (fun v _ => v = .bl true) fun _ _ _ => False)
    (none_out : ∀ (H : Hp) (s : Shared) (e : Value) (s' : Shared), CX [] H s (fun _ _ _ => False) e s' → False) : PySem.W.WalkO q loose XP YP l.row.toRowW d [] (fun f vs => PySem.call f vs) := by
  refine Att.attach_call hn hdf fun w s₀ s₁ mg mb fa o pm cd doc a vs ns G Y ho hd hcd hmg hobj hints hlen hg => ?_
  obtain ⟨K, inK, hF⟩ := F w mg fa _ Y G.T.g hmg
  exact top_call inK G.T.g G.T.b G.T.builtins G.T.nolimit hg hobj hints (Nat.le_trans hlen small) room hF (fun H hS => hsp K H a ns hlen hS) fun H e s' => none_out H s₁ e s'
end Wk
namespace Hd
open PySem L2 Wk
abbrev R : PySem.W.OpenRow := PySem.W.OpenLaw.row PySem.Challenge.rw_walkagon_k09_reasons_checked
abbrev qv : Program := PySem.W.view R.prog [45]
def nmOf : PySem.Expr → PySem.Str
  | .Name n _ => n
  | _ => Str.empty
def names : List PySem.Str := ((R.prog.main.body.take 45).flatMap fun s => match s with
  | .FunctionDef n .. => [n]
  | .ClassDef n .. => [n]
  | .Assign ts .. => ts.map nmOf
  | _ => []).filter fun n => !(n == "__name__")
def as_ : List Addr := mainGlobals :: cStatics :: (List.range 1000).reverse
def F0 (K : PySem.W.Frag) : Prop :=
  (PySem.W.nsIn K mainGlobals "Polygon" = some (some (.ref (He.ga K "Polygon")))) ∧
  (PySem.W.plainGet K (He.ga K "Polygon") Str.empty = true) ∧
  (PySem.W.hasDictIn K (He.ga K "Polygon") = true) ∧
  (PySem.W.plainOver K (He.ga K "Polygon") = true) ∧
  (PySem.W.findIn K (.ref (He.ga K "Polygon")) "__setattr__" = some (some (.builtin "object.__setattr__"))) ∧
  (PySem.W.makesIn K (He.ga K "Polygon") = true) ∧
  (PySem.W.keepIn K (.ref (He.ga K "Polygon")) = true) ∧
  (PySem.W.findIn K (.ref (He.ga K "Polygon")) "points" = some none) ∧
  (PySem.W.findIn K (.ref (He.ga K "Polygon")) "__ne__" = some (some (.builtin "object.__ne__"))) ∧
  (PySem.W.mroIn K (He.ga K "Polygon") (.type "object") = some true) ∧
  (PySem.W.findIn K (.ref (He.ga K "Polygon")) "__class__" = some (some (.builtin "object.__class__"))) ∧
  (PySem.W.readsIn K (He.ga K "Polygon") (.type "type") = true) ∧
  (PySem.W.specialIn K (.ref (He.ga K "Polygon")) "__getattribute__" = some (some (.builtin "type.__getattribute__"))) ∧
  (PySem.W.specialIn K (.builtin "object.__class__") "__get__" = some (some (.builtin "getset_descriptor.__get__"))) ∧
  (PySem.W.takesIn K (.builtin "object.__class__") = some true) ∧
  (valB K (He.ga K "Polygon") "MOST_JOINTS" 8 = true) ∧
  (PySem.W.nsIn K mainGlobals "LEAST_JOINTS" = some (some (.int 3 (tkO (PySem.W.nsIn K mainGlobals "LEAST_JOINTS"))))) ∧
  (PySem.W.nsIn K mainGlobals "len" = some none) ∧
  (PySem.W.nsIn K mainGlobals "max" = some none) ∧
  (PySem.W.nsIn K mainGlobals "min" = some none) ∧
  (PySem.W.nsIn K mainGlobals "range" = some none) ∧
  (PySem.W.nsIn K mainGlobals "enumerate" = some none) ∧
  (PySem.W.nsIn K mainGlobals "zip" = some none) ∧
  (PySem.W.nsIn K mainGlobals "list" = some none)
instance (K : PySem.W.Frag) : Decidable (F0 K) := by
  unfold F0
  infer_instance
def F1 (K : PySem.W.Frag) : Prop :=
  (PySem.W.nsIn K mainGlobals "tuple" = some none) ∧
  (PySem.W.nsIn K mainGlobals "int" = some none) ∧
  (PySem.W.nsIn K mainGlobals "str" = some none) ∧
  (PySem.W.nsIn K mainGlobals "sum" = some none) ∧
  (PySem.W.nsIn K mainGlobals "isinstance" = some none) ∧
  (PySem.W.nsIn K mainGlobals "any" = some none) ∧
  (PySem.W.nsIn K mainGlobals "repr" = some none) ∧
  (PySem.W.nsIn K mainGlobals "set" = some none) ∧
  (PySem.W.nsIn K mainGlobals "abs" = some none) ∧
  (PySem.W.nsIn K mainGlobals "all" = some none) ∧
  (PySem.W.nsIn K mainGlobals "sorted" = some none) ∧
  (PySem.W.nsIn K mainGlobals "Reason" = some (some (.ref (He.ga K "Reason")))) ∧
  (PySem.W.plainGet K (He.ga K "Reason") Str.empty = true) ∧
  (PySem.W.hasDictIn K (He.ga K "Reason") = true) ∧
  (PySem.W.plainOver K (He.ga K "Reason") = true) ∧
  (PySem.W.findIn K (.ref (He.ga K "Reason")) "__setattr__" = some (some (.builtin "object.__setattr__"))) ∧
  (PySem.W.makesIn K (He.ga K "Reason") = true) ∧
  (PySem.W.keepIn K (.ref (He.ga K "Reason")) = true) ∧
  (PySem.W.findIn K (.ref (He.ga K "Reason")) "stick" = some none) ∧
  (PySem.W.findIn K (.ref (He.ga K "Reason")) "__ne__" = some (some (.builtin "object.__ne__"))) ∧
  (PySem.W.mroIn K (He.ga K "Reason") (.type "object") = some true) ∧
  (PySem.W.findIn K (.ref (He.ga K "Reason")) "__class__" = some (some (.builtin "object.__class__"))) ∧
  (PySem.W.readsIn K (He.ga K "Reason") (.type "type") = true) ∧
  (PySem.W.specialIn K (.ref (He.ga K "Reason")) "__getattribute__" = some (some (.builtin "type.__getattribute__")))
instance (K : PySem.W.Frag) : Decidable (F1 K) := by
  unfold F1
  infer_instance
def F2 (K : PySem.W.Frag) : Prop :=
  (PySem.W.nsIn K mainGlobals "StickCount" = some (some (.ref (He.ga K "StickCount")))) ∧
  (PySem.W.plainGet K (He.ga K "StickCount") Str.empty = true) ∧
  (PySem.W.hasDictIn K (He.ga K "StickCount") = true) ∧
  (PySem.W.plainOver K (He.ga K "StickCount") = true) ∧
  (PySem.W.findIn K (.ref (He.ga K "StickCount")) "__setattr__" = some (some (.builtin "object.__setattr__"))) ∧
  (PySem.W.makesIn K (He.ga K "StickCount") = true) ∧
  (PySem.W.keepIn K (.ref (He.ga K "StickCount")) = true) ∧
  (PySem.W.findIn K (.ref (He.ga K "StickCount")) "stick" = some none) ∧
  (PySem.W.findIn K (.ref (He.ga K "StickCount")) "__ne__" = some (some (.builtin "object.__ne__"))) ∧
  (PySem.W.mroIn K (He.ga K "StickCount") (.type "object") = some true) ∧
  (PySem.W.findIn K (.ref (He.ga K "StickCount")) "__class__" = some (some (.builtin "object.__class__"))) ∧
  (PySem.W.readsIn K (He.ga K "StickCount") (.type "type") = true) ∧
  (PySem.W.specialIn K (.ref (He.ga K "StickCount")) "__getattribute__" = some (some (.builtin "type.__getattribute__"))) ∧
  (PySem.W.nsIn K mainGlobals "Congruence" = some (some (.ref (He.ga K "Congruence")))) ∧
  (PySem.W.plainGet K (He.ga K "Congruence") Str.empty = true) ∧
  (PySem.W.hasDictIn K (He.ga K "Congruence") = true) ∧
  (PySem.W.plainOver K (He.ga K "Congruence") = true) ∧
  (PySem.W.findIn K (.ref (He.ga K "Congruence")) "__setattr__" = some (some (.builtin "object.__setattr__"))) ∧
  (PySem.W.makesIn K (He.ga K "Congruence") = true) ∧
  (PySem.W.keepIn K (.ref (He.ga K "Congruence")) = true) ∧
  (PySem.W.findIn K (.ref (He.ga K "Congruence")) "a" = some none) ∧
  (PySem.W.findIn K (.ref (He.ga K "Congruence")) "__ne__" = some (some (.builtin "object.__ne__"))) ∧
  (PySem.W.mroIn K (He.ga K "Congruence") (.type "object") = some true) ∧
  (PySem.W.findIn K (.ref (He.ga K "Congruence")) "__class__" = some (some (.builtin "object.__class__")))
instance (K : PySem.W.Frag) : Decidable (F2 K) := by
  unfold F2
  infer_instance
def F3 (K : PySem.W.Frag) : Prop :=
  (PySem.W.readsIn K (He.ga K "Congruence") (.type "type") = true) ∧
  (PySem.W.specialIn K (.ref (He.ga K "Congruence")) "__getattribute__" = some (some (.builtin "type.__getattribute__"))) ∧
  (PySem.W.nsIn K mainGlobals "JointCount" = some (some (.ref (He.ga K "JointCount")))) ∧
  (PySem.W.plainGet K (He.ga K "JointCount") Str.empty = true) ∧
  (PySem.W.hasDictIn K (He.ga K "JointCount") = true) ∧
  (PySem.W.plainOver K (He.ga K "JointCount") = true) ∧
  (PySem.W.findIn K (.ref (He.ga K "JointCount")) "__setattr__" = some (some (.builtin "object.__setattr__"))) ∧
  (PySem.W.makesIn K (He.ga K "JointCount") = true) ∧
  (PySem.W.keepIn K (.ref (He.ga K "JointCount")) = true) ∧
  (PySem.W.findIn K (.ref (He.ga K "JointCount")) "stick" = some none) ∧
  (PySem.W.findIn K (.ref (He.ga K "JointCount")) "__ne__" = some (some (.builtin "object.__ne__"))) ∧
  (PySem.W.mroIn K (He.ga K "JointCount") (.type "object") = some true) ∧
  (PySem.W.findIn K (.ref (He.ga K "JointCount")) "__class__" = some (some (.builtin "object.__class__"))) ∧
  (PySem.W.readsIn K (He.ga K "JointCount") (.type "type") = true) ∧
  (PySem.W.specialIn K (.ref (He.ga K "JointCount")) "__getattribute__" = some (some (.builtin "type.__getattribute__"))) ∧
  (PySem.W.findIn K (.ref (He.ga K "Congruence")) "b" = some none) ∧
  (PySem.W.findIn K (.ref (He.ga K "Congruence")) "modulus" = some none) ∧
  (PySem.W.findIn K (.ref (He.ga K "JointCount")) "__init__" = some (some (.builtin "object.__init__"))) ∧
  (PySem.W.findIn K (.ref (He.ga K "Reason")) "__init__" = some (some (.builtin "object.__init__"))) ∧
  (PySem.W.nsIn K mainGlobals "type" = some none) ∧
  (PySem.W.nsIn K mainGlobals "super" = some none) ∧
  (PySem.W.nsIn K cStatics "thirdparty.any" = some none) ∧
  (PySem.W.isClsIn K (He.ga K "Reason") = true) ∧
  (PySem.W.typeIn K (.ref (He.ga K "Reason")) = some (.type "type"))
instance (K : PySem.W.Frag) : Decidable (F3 K) := by
  unfold F3
  infer_instance
def F4 (K : PySem.W.Frag) : Prop :=
  (clB K (He.ga K "Reason") = true) ∧
  (PySem.W.subIn K (.ref (He.ga K "Reason")) (.ref (He.ga K "Reason")) = some true) ∧
  (PySem.W.subIn K (.type "str") (.ref (He.ga K "Reason")) = some false) ∧
  (PySem.W.isClsIn K (He.ga K "JointCount") = true) ∧
  (PySem.W.typeIn K (.ref (He.ga K "JointCount")) = some (.type "type")) ∧
  (clB K (He.ga K "JointCount") = true) ∧
  (PySem.W.subIn K (.ref (He.ga K "JointCount")) (.ref (He.ga K "JointCount")) = some true) ∧
  (PySem.W.subIn K (.type "str") (.ref (He.ga K "JointCount")) = some false) ∧
  (PySem.W.isClsIn K (He.ga K "StickCount") = true) ∧
  (PySem.W.typeIn K (.ref (He.ga K "StickCount")) = some (.type "type")) ∧
  (clB K (He.ga K "StickCount") = true) ∧
  (PySem.W.subIn K (.ref (He.ga K "StickCount")) (.ref (He.ga K "StickCount")) = some true) ∧
  (PySem.W.subIn K (.type "str") (.ref (He.ga K "StickCount")) = some false) ∧
  (PySem.W.isClsIn K (He.ga K "Congruence") = true) ∧
  (PySem.W.typeIn K (.ref (He.ga K "Congruence")) = some (.type "type")) ∧
  (clB K (He.ga K "Congruence") = true) ∧
  (PySem.W.subIn K (.ref (He.ga K "Congruence")) (.ref (He.ga K "Congruence")) = some true) ∧
  (PySem.W.subIn K (.type "str") (.ref (He.ga K "Congruence")) = some false) ∧
  (PySem.W.subIn K (.ref (He.ga K "JointCount")) (.ref (He.ga K "Reason")) = some true) ∧
  ((Value.ref (He.ga K "Reason") != Value.ref (He.ga K "JointCount")) = true) ∧
  (PySem.W.mroIn K (He.ga K "JointCount") (.ref (He.ga K "JointCount")) = some true) ∧
  (PySem.W.subIn K (.ref (He.ga K "StickCount")) (.ref (He.ga K "Reason")) = some true) ∧
  ((Value.ref (He.ga K "Reason") != Value.ref (He.ga K "StickCount")) = true) ∧
  (PySem.W.mroIn K (He.ga K "StickCount") (.ref (He.ga K "StickCount")) = some true)
instance (K : PySem.W.Frag) : Decidable (F4 K) := by
  unfold F4
  infer_instance
def F5 (K : PySem.W.Frag) : Prop :=
  (PySem.W.subIn K (.ref (He.ga K "Congruence")) (.ref (He.ga K "Reason")) = some true) ∧
  ((Value.ref (He.ga K "Reason") != Value.ref (He.ga K "Congruence")) = true) ∧
  (PySem.W.mroIn K (He.ga K "Congruence") (.ref (He.ga K "Congruence")) = some true) ∧
  (PySem.W.subIn K (.ref (He.ga K "Reason")) (.ref (He.ga K "JointCount")) = some false) ∧
  (PySem.W.subIn K (.ref (He.ga K "Reason")) (.ref (He.ga K "StickCount")) = some false) ∧
  (PySem.W.subIn K (.ref (He.ga K "Reason")) (.ref (He.ga K "Congruence")) = some false) ∧
  (PySem.W.subIn K (.ref (He.ga K "JointCount")) (.ref (He.ga K "StickCount")) = some false) ∧
  (PySem.W.subIn K (.ref (He.ga K "JointCount")) (.ref (He.ga K "Congruence")) = some false) ∧
  (PySem.W.subIn K (.ref (He.ga K "StickCount")) (.ref (He.ga K "JointCount")) = some false) ∧
  (PySem.W.subIn K (.ref (He.ga K "StickCount")) (.ref (He.ga K "Congruence")) = some false) ∧
  (PySem.W.subIn K (.ref (He.ga K "Congruence")) (.ref (He.ga K "JointCount")) = some false) ∧
  (PySem.W.subIn K (.ref (He.ga K "Congruence")) (.ref (He.ga K "StickCount")) = some false) ∧
  (PySem.W.subIn K (.type "NoneType") (.ref (He.ga K "Congruence")) = some false) ∧
  (PySem.W.nsIn K mainGlobals "_law_source" = some (some (.ref (He.ga K "_law_source")))) ∧
  (fnB K (He.ga K "_law_source") "_law_source" [] = true) ∧
  (PySem.W.keepIn K (.ref (He.ga K "_law_source")) = true) ∧
  (PySem.W.nsIn K mainGlobals "_law_draw" = some (some (.ref (He.ga K "_law_draw")))) ∧
  (fnB K (He.ga K "_law_draw") "_law_draw" [] = true) ∧
  (PySem.W.keepIn K (.ref (He.ga K "_law_draw")) = true) ∧
  (PySem.W.nsIn K mainGlobals "_law_closed" = some (some (.ref (He.ga K "_law_closed")))) ∧
  (fnB K (He.ga K "_law_closed") "_law_closed" [] = true) ∧
  (PySem.W.keepIn K (.ref (He.ga K "_law_closed")) = true) ∧
  (PySem.W.nsIn K mainGlobals "_law_drawn" = some (some (.ref (He.ga K "_law_drawn")))) ∧
  (fnB K (He.ga K "_law_drawn") "_law_drawn" [] = true)
instance (K : PySem.W.Frag) : Decidable (F5 K) := by
  unfold F5
  infer_instance
def F6 (K : PySem.W.Frag) : Prop :=
  (PySem.W.keepIn K (.ref (He.ga K "_law_drawn")) = true) ∧
  (PySem.W.nsIn K mainGlobals "_law_sticks" = some (some (.ref (He.ga K "_law_sticks")))) ∧
  (fnB K (He.ga K "_law_sticks") "_law_sticks" [] = true) ∧
  (PySem.W.keepIn K (.ref (He.ga K "_law_sticks")) = true) ∧
  (PySem.W.nsIn K mainGlobals "_law_shuffled" = some (some (.ref (He.ga K "_law_shuffled")))) ∧
  (fnB K (He.ga K "_law_shuffled") "_law_shuffled" [] = true) ∧
  (PySem.W.keepIn K (.ref (He.ga K "_law_shuffled")) = true) ∧
  (PySem.W.nsIn K mainGlobals "_law_rearranged" = some (some (.ref (He.ga K "_law_rearranged")))) ∧
  (fnB K (He.ga K "_law_rearranged") "_law_rearranged" [] = true) ∧
  (PySem.W.keepIn K (.ref (He.ga K "_law_rearranged")) = true) ∧
  (PySem.W.nsIn K mainGlobals "is_count" = some (some (.ref (He.ga K "is_count")))) ∧
  (fnB K (He.ga K "is_count") "is_count" [] = true) ∧
  (PySem.W.keepIn K (.ref (He.ga K "is_count")) = true) ∧
  (PySem.W.nsIn K mainGlobals "is_number" = some (some (.ref (He.ga K "is_number")))) ∧
  (fnB K (He.ga K "is_number") "is_number" [] = true) ∧
  (PySem.W.keepIn K (.ref (He.ga K "is_number")) = true) ∧
  (PySem.W.nsIn K mainGlobals "read_points" = some (some (.ref (He.ga K "read_points")))) ∧
  (fnB K (He.ga K "read_points") "read_points" [] = true) ∧
  (PySem.W.keepIn K (.ref (He.ga K "read_points")) = true) ∧
  (PySem.W.nsIn K mainGlobals "check_pairs" = some (some (.ref (He.ga K "check_pairs")))) ∧
  (fnB K (He.ga K "check_pairs") "check_pairs" [] = true) ∧
  (PySem.W.keepIn K (.ref (He.ga K "check_pairs")) = true) ∧
  (PySem.W.findIn K (.ref (He.ga K "Polygon")) "__init__" = some (some (.ref (He.ma K (He.ga K "Polygon") "__init__")))) ∧
  (PySem.W.isFn K (.ref (He.ma K (He.ga K "Polygon") "__init__")) = true)
instance (K : PySem.W.Frag) : Decidable (F6 K) := by
  unfold F6
  infer_instance
def F7 (K : PySem.W.Frag) : Prop :=
  (fnB K (He.ma K (He.ga K "Polygon") "__init__") "Polygon.__init__" [] = true) ∧
  (PySem.W.keepIn K (.ref (He.ma K (He.ga K "Polygon") "__init__")) = true) ∧
  (getB K (He.ga K "Polygon") "parse" "classmethod.__get__" = true) ∧
  (PySem.W.recIn K (pa K (He.ga K "Polygon") "parse") "classmethod" = some (.ref (ra K (pa K (He.ga K "Polygon") "parse") "classmethod") :: (rr K (pa K (He.ga K "Polygon") "parse") "classmethod"))) ∧
  (PySem.W.fnIn K (ra K (pa K (He.ga K "Polygon") "parse") "classmethod") = true) ∧
  (fnB K (ra K (pa K (He.ga K "Polygon") "parse") "classmethod") "Polygon.parse" [] = true) ∧
  (PySem.W.keepIn K (.ref (ra K (pa K (He.ga K "Polygon") "parse") "classmethod")) = true) ∧
  (PySem.W.nsIn K mainGlobals "_law_made" = some (some (.ref (He.ga K "_law_made")))) ∧
  (fnB K (He.ga K "_law_made") "_law_made" [] = true) ∧
  (PySem.W.keepIn K (.ref (He.ga K "_law_made")) = true) ∧
  (PySem.W.findIn K (.ref (He.ga K "Polygon")) "__len__" = some (some (.ref (He.ma K (He.ga K "Polygon") "__len__")))) ∧
  (PySem.W.isFn K (.ref (He.ma K (He.ga K "Polygon") "__len__")) = true) ∧
  (fnB K (He.ma K (He.ga K "Polygon") "__len__") "Polygon.__len__" [] = true) ∧
  (PySem.W.keepIn K (.ref (He.ma K (He.ga K "Polygon") "__len__")) = true) ∧
  (PySem.W.nsIn K mainGlobals "minus" = some (some (.ref (He.ga K "minus")))) ∧
  (fnB K (He.ga K "minus") "minus" [] = true) ∧
  (PySem.W.keepIn K (.ref (He.ga K "minus")) = true) ∧
  (PySem.W.nsIn K mainGlobals "sides_of" = some (some (.ref (He.ga K "sides_of")))) ∧
  (fnB K (He.ga K "sides_of") "sides_of" [] = true) ∧
  (PySem.W.keepIn K (.ref (He.ga K "sides_of")) = true) ∧
  (PySem.W.findIn K (.ref (He.ga K "Polygon")) "sticks" = some (some (.ref (He.ma K (He.ga K "Polygon") "sticks")))) ∧
  (PySem.W.specialIn K (.ref (He.ma K (He.ga K "Polygon") "sticks")) "__get__" = some (some (.builtin "property.__get__"))) ∧
  (PySem.W.takesIn K (.ref (He.ma K (He.ga K "Polygon") "sticks")) = some true) ∧
  (PySem.W.recIn K (He.ma K (He.ga K "Polygon") "sticks") "property" = some (.ref (ra K (He.ma K (He.ga K "Polygon") "sticks") "property") :: (rr K (He.ma K (He.ga K "Polygon") "sticks") "property")))
instance (K : PySem.W.Frag) : Decidable (F7 K) := by
  unfold F7
  infer_instance
def F8 (K : PySem.W.Frag) : Prop :=
  (fnB K (ra K (He.ma K (He.ga K "Polygon") "sticks") "property") "Polygon.sticks" [] = true) ∧
  (PySem.W.keepIn K (.ref (ra K (He.ma K (He.ga K "Polygon") "sticks") "property")) = true) ∧
  (PySem.W.findIn K (.ref (He.ga K "StickCount")) "__init__" = some (some (.ref (He.ma K (He.ga K "StickCount") "__init__")))) ∧
  (PySem.W.isFn K (.ref (He.ma K (He.ga K "StickCount") "__init__")) = true) ∧
  (fnB K (He.ma K (He.ga K "StickCount") "__init__") "StickCount.__init__" [] = true) ∧
  (PySem.W.keepIn K (.ref (He.ma K (He.ga K "StickCount") "__init__")) = true) ∧
  (PySem.W.findIn K (.ref (He.ga K "StickCount")) "holds" = some (some (.ref (He.ma K (He.ga K "StickCount") "holds")))) ∧
  (PySem.W.isFn K (.ref (He.ma K (He.ga K "StickCount") "holds")) = true) ∧
  (fnB K (He.ma K (He.ga K "StickCount") "holds") "StickCount.holds" [] = true) ∧
  (PySem.W.keepIn K (.ref (He.ma K (He.ga K "StickCount") "holds")) = true) ∧
  (PySem.W.nsIn K mainGlobals "differences" = some (some (.ref (He.ga K "differences")))) ∧
  (fnB K (He.ga K "differences") "differences" [] = true) ∧
  (PySem.W.keepIn K (.ref (He.ga K "differences")) = true) ∧
  (PySem.W.findIn K (.ref (He.ga K "Congruence")) "_vanishes" = some (some (.ref (He.ma K (He.ga K "Congruence") "_vanishes")))) ∧
  (PySem.W.isFn K (.ref (He.ma K (He.ga K "Congruence") "_vanishes")) = true) ∧
  (fnB K (He.ma K (He.ga K "Congruence") "_vanishes") "Congruence._vanishes" [] = true) ∧
  (PySem.W.keepIn K (.ref (He.ma K (He.ga K "Congruence") "_vanishes")) = true) ∧
  (PySem.W.findIn K (.ref (He.ga K "Congruence")) "holds" = some (some (.ref (He.ma K (He.ga K "Congruence") "holds")))) ∧
  (PySem.W.isFn K (.ref (He.ma K (He.ga K "Congruence") "holds")) = true) ∧
  (fnB K (He.ma K (He.ga K "Congruence") "holds") "Congruence.holds" [] = true) ∧
  (PySem.W.keepIn K (.ref (He.ma K (He.ga K "Congruence") "holds")) = true) ∧
  (PySem.W.nsIn K mainGlobals "mixed" = some (some (.ref (He.ga K "mixed")))) ∧
  (fnB K (He.ga K "mixed") "mixed" [] = true) ∧
  (PySem.W.keepIn K (.ref (He.ga K "mixed")) = true)
instance (K : PySem.W.Frag) : Decidable (F8 K) := by
  unfold F8
  infer_instance
def F9 (K : PySem.W.Frag) : Prop :=
  (PySem.W.nsIn K mainGlobals "cleared" = some (some (.ref (He.ga K "cleared")))) ∧
  (fnB K (He.ga K "cleared") "cleared" [] = true) ∧
  (PySem.W.keepIn K (.ref (He.ga K "cleared")) = true) ∧
  (PySem.W.nsIn K mainGlobals "basis" = some (some (.ref (He.ga K "basis")))) ∧
  (fnB K (He.ga K "basis") "basis" [] = true) ∧
  (PySem.W.keepIn K (.ref (He.ga K "basis")) = true) ∧
  (PySem.W.findIn K (.ref (He.ga K "Congruence")) "__init__" = some (some (.ref (He.ma K (He.ga K "Congruence") "__init__")))) ∧
  (PySem.W.isFn K (.ref (He.ma K (He.ga K "Congruence") "__init__")) = true) ∧
  (fnB K (He.ma K (He.ga K "Congruence") "__init__") "Congruence.__init__" [] = true) ∧
  (PySem.W.keepIn K (.ref (He.ma K (He.ga K "Congruence") "__init__")) = true) ∧
  (PySem.W.nsIn K mainGlobals "congruences" = some (some (.ref (He.ga K "congruences")))) ∧
  (fnB K (He.ga K "congruences") "congruences" [] = true) ∧
  (PySem.W.keepIn K (.ref (He.ga K "congruences")) = true) ∧
  (PySem.W.nsIn K mainGlobals "reason_against" = some (some (.ref (He.ga K "reason_against")))) ∧
  (fnB K (He.ga K "reason_against") "reason_against" [] = true) ∧
  (PySem.W.keepIn K (.ref (He.ga K "reason_against")) = true) ∧
  (PySem.W.nsIn K mainGlobals "_law_some_reasons" = some (some (.ref (He.ga K "_law_some_reasons")))) ∧
  (fnB K (He.ga K "_law_some_reasons") "_law_some_reasons" [] = true) ∧
  (PySem.W.keepIn K (.ref (He.ga K "_law_some_reasons")) = true) ∧
  (PySem.W.nsIn K mainGlobals "_law_due" = some (some (.ref (He.ga K "_law_due")))) ∧
  (fnB K (He.ga K "_law_due") "_law_due" [] = true) ∧
  (PySem.W.keepIn K (.ref (He.ga K "_law_due")) = true) ∧
  (PySem.W.nsIn K mainGlobals "_law_text" = some (some (.ref (He.ga K "_law_text")))) ∧
  (fnB K (He.ga K "_law_text") "_law_text" [] = true)
instance (K : PySem.W.Frag) : Decidable (F9 K) := by
  unfold F9
  infer_instance
def F10 (K : PySem.W.Frag) : Prop :=
  (PySem.W.keepIn K (.ref (He.ga K "_law_text")) = true) ∧
  (PySem.W.nsIn K mainGlobals "_law_key" = some (some (.ref (He.ga K "_law_key")))) ∧
  (fnB K (He.ga K "_law_key") "_law_key" [] = true) ∧
  (PySem.W.keepIn K (.ref (He.ga K "_law_key")) = true) ∧
  (PySem.W.findIn K (.ref (He.ga K "Reason")) "holds" = some (some (.ref (He.ma K (He.ga K "Reason") "holds")))) ∧
  (PySem.W.isFn K (.ref (He.ma K (He.ga K "Reason") "holds")) = true) ∧
  (fnB K (He.ma K (He.ga K "Reason") "holds") "Reason.holds" [] = true) ∧
  (PySem.W.keepIn K (.ref (He.ma K (He.ga K "Reason") "holds")) = true) ∧
  (PySem.W.findIn K (.ref (He.ga K "JointCount")) "holds" = some (some (.ref (He.ma K (He.ga K "JointCount") "holds")))) ∧
  (PySem.W.isFn K (.ref (He.ma K (He.ga K "JointCount") "holds")) = true) ∧
  (fnB K (He.ma K (He.ga K "JointCount") "holds") "JointCount.holds" [] = true) ∧
  (PySem.W.keepIn K (.ref (He.ma K (He.ga K "JointCount") "holds")) = true) ∧
  (PySem.W.findIn K (.ref (He.ga K "Reason")) "told" = some (some (.ref (He.ma K (He.ga K "Reason") "told")))) ∧
  (PySem.W.isFn K (.ref (He.ma K (He.ga K "Reason") "told")) = true) ∧
  (fnB K (He.ma K (He.ga K "Reason") "told") "Reason.told" [] = true) ∧
  (PySem.W.keepIn K (.ref (He.ma K (He.ga K "Reason") "told")) = true) ∧
  (PySem.W.findIn K (.ref (He.ga K "JointCount")) "told" = some (some (.ref (He.ma K (He.ga K "JointCount") "told")))) ∧
  (PySem.W.isFn K (.ref (He.ma K (He.ga K "JointCount") "told")) = true) ∧
  (PySem.W.keepIn K (.ref (He.ma K (He.ga K "JointCount") "told")) = true) ∧
  (fnB K (He.ma K (He.ga K "JointCount") "told") "JointCount.told" [("__class__", ccOf K (He.ma K (He.ga K "JointCount") "told"))] = true) ∧
  (cdOf K (He.ma K (He.ga K "JointCount") "told") = .ref (refOf (cdOf K (He.ma K (He.ga K "JointCount") "told")))) ∧
  (fldB K (refOf (cdOf K (He.ma K (He.ga K "JointCount") "told"))) = true) ∧
  (celB K (ccOf K (He.ma K (He.ga K "JointCount") "told")) (He.ga K "JointCount") = true) ∧
  (PySem.W.ks_superIn K (He.ga K "JointCount") (He.ga K "JointCount") "told" = some (some (.ref (He.ma K (He.ga K "Reason") "told"))))
instance (K : PySem.W.Frag) : Decidable (F10 K) := by
  unfold F10
  infer_instance
def F11 (K : PySem.W.Frag) : Prop :=
  (PySem.W.typeIn K (.ref (He.ma K (He.ga K "Reason") "told")) = some (.type "function")) ∧
  (PySem.W.fnIn K (He.ma K (He.ga K "Reason") "told") = true) ∧
  (PySem.W.findIn K (.ref (He.ga K "StickCount")) "told" = some (some (.ref (He.ma K (He.ga K "StickCount") "told")))) ∧
  (PySem.W.isFn K (.ref (He.ma K (He.ga K "StickCount") "told")) = true) ∧
  (PySem.W.keepIn K (.ref (He.ma K (He.ga K "StickCount") "told")) = true) ∧
  (fnB K (He.ma K (He.ga K "StickCount") "told") "StickCount.told" [("__class__", ccOf K (He.ma K (He.ga K "StickCount") "told"))] = true) ∧
  (cdOf K (He.ma K (He.ga K "StickCount") "told") = .ref (refOf (cdOf K (He.ma K (He.ga K "StickCount") "told")))) ∧
  (fldB K (refOf (cdOf K (He.ma K (He.ga K "StickCount") "told"))) = true) ∧
  (celB K (ccOf K (He.ma K (He.ga K "StickCount") "told")) (He.ga K "StickCount") = true) ∧
  (PySem.W.ks_superIn K (He.ga K "StickCount") (He.ga K "StickCount") "told" = some (some (.ref (He.ma K (He.ga K "Reason") "told")))) ∧
  (PySem.W.findIn K (.ref (He.ga K "Congruence")) "told" = some (some (.ref (He.ma K (He.ga K "Congruence") "told")))) ∧
  (PySem.W.isFn K (.ref (He.ma K (He.ga K "Congruence") "told")) = true) ∧
  (PySem.W.keepIn K (.ref (He.ma K (He.ga K "Congruence") "told")) = true) ∧
  (fnB K (He.ma K (He.ga K "Congruence") "told") "Congruence.told" [("__class__", ccOf K (He.ma K (He.ga K "Congruence") "told"))] = true) ∧
  (cdOf K (He.ma K (He.ga K "Congruence") "told") = .ref (refOf (cdOf K (He.ma K (He.ga K "Congruence") "told")))) ∧
  (fldB K (refOf (cdOf K (He.ma K (He.ga K "Congruence") "told"))) = true) ∧
  (celB K (ccOf K (He.ma K (He.ga K "Congruence") "told")) (He.ga K "Congruence") = true) ∧
  (PySem.W.ks_superIn K (He.ga K "Congruence") (He.ga K "Congruence") "told" = some (some (.ref (He.ma K (He.ga K "Reason") "told")))) ∧
  (PySem.W.findIn K (.ref (He.ga K "Reason")) "__eq__" = some (some (.ref (He.ma K (He.ga K "Reason") "__eq__")))) ∧
  (PySem.W.isFn K (.ref (He.ma K (He.ga K "Reason") "__eq__")) = true) ∧
  (fnB K (He.ma K (He.ga K "Reason") "__eq__") "Reason.__eq__" [] = true) ∧
  (PySem.W.keepIn K (.ref (He.ma K (He.ga K "Reason") "__eq__")) = true) ∧
  (PySem.W.findIn K (.ref (He.ga K "JointCount")) "__eq__" = some (some (.ref (He.ma K (He.ga K "JointCount") "__eq__")))) ∧
  (PySem.W.isFn K (.ref (He.ma K (He.ga K "JointCount") "__eq__")) = true)
instance (K : PySem.W.Frag) : Decidable (F11 K) := by
  unfold F11
  infer_instance
def F12 (K : PySem.W.Frag) : Prop :=
  (fnB K (He.ma K (He.ga K "JointCount") "__eq__") "JointCount.__eq__" [] = true) ∧
  (PySem.W.keepIn K (.ref (He.ma K (He.ga K "JointCount") "__eq__")) = true) ∧
  (PySem.W.findIn K (.ref (He.ga K "StickCount")) "__eq__" = some (some (.ref (He.ma K (He.ga K "StickCount") "__eq__")))) ∧
  (PySem.W.isFn K (.ref (He.ma K (He.ga K "StickCount") "__eq__")) = true) ∧
  (fnB K (He.ma K (He.ga K "StickCount") "__eq__") "StickCount.__eq__" [] = true) ∧
  (PySem.W.keepIn K (.ref (He.ma K (He.ga K "StickCount") "__eq__")) = true) ∧
  (PySem.W.findIn K (.ref (He.ga K "Congruence")) "__eq__" = some (some (.ref (He.ma K (He.ga K "Congruence") "__eq__")))) ∧
  (PySem.W.isFn K (.ref (He.ma K (He.ga K "Congruence") "__eq__")) = true) ∧
  (fnB K (He.ma K (He.ga K "Congruence") "__eq__") "Congruence.__eq__" [] = true) ∧
  (PySem.W.keepIn K (.ref (He.ma K (He.ga K "Congruence") "__eq__")) = true) ∧
  (PySem.W.nsIn K mainGlobals "law" = some (some (.ref (He.ga K "law")))) ∧
  (fnB K (He.ga K "law") "law" [] = true) ∧
  (PySem.W.keepIn K (.ref (He.ga K "law")) = true) ∧
  (((R.prog.main.file : Str) == (fiOf K (refOf (cdOf K (He.ma K (He.ga K "JointCount") "told"))))) = true) ∧
  (((R.prog.main.file : Str) == (fiOf K (refOf (cdOf K (He.ma K (He.ga K "StickCount") "told"))))) = true) ∧
  (((R.prog.main.file : Str) == (fiOf K (refOf (cdOf K (He.ma K (He.ga K "Congruence") "told"))))) = true)
instance (K : PySem.W.Frag) : Decidable (F12 K) := by
  unfold F12
  infer_instance
def okG0 (K : PySem.W.Frag) : Bool := decide (F0 K) && (decide (F1 K) && (decide (F2 K) && (decide (F3 K) && (decide (F4 K) && (decide (F5 K))))))
def okG1 (K : PySem.W.Frag) : Bool := decide (F6 K) && (decide (F7 K) && (decide (F8 K) && (decide (F9 K) && (decide (F10 K) && (decide (F11 K))))))
def okG2 (K : PySem.W.Frag) : Bool := decide (F12 K)
def okAll (K : PySem.W.Frag) : Bool := okG0 K && (okG1 K && (okG2 K))
def d_0 : FD := ⟨fun K => He.ga K "_law_source", "_law_source", "_law_source", s__law_source⟩
def d_1 : FD := ⟨fun K => He.ga K "_law_draw", "_law_draw", "_law_draw", s__law_draw⟩
def d_2 : FD := ⟨fun K => He.ga K "_law_closed", "_law_closed", "_law_closed", s__law_closed⟩
def d_3 : FD := ⟨fun K => He.ga K "_law_drawn", "_law_drawn", "_law_drawn", s__law_drawn⟩
def d_4 : FD := ⟨fun K => He.ga K "_law_sticks", "_law_sticks", "_law_sticks", s__law_sticks⟩
def d_5 : FD := ⟨fun K => He.ga K "_law_shuffled", "_law_shuffled", "_law_shuffled", s__law_shuffled⟩
def d_6 : FD := ⟨fun K => He.ga K "_law_rearranged", "_law_rearranged", "_law_rearranged", s__law_rearranged⟩
def d_7 : FD := ⟨fun K => He.ga K "is_count", "is_count", "is_count", s_is_count⟩
def d_8 : FD := ⟨fun K => He.ga K "is_number", "is_number", "is_number", s_is_number⟩
def d_9 : FD := ⟨fun K => He.ga K "read_points", "read_points", "read_points", s_read_points⟩
def d_10 : FD := ⟨fun K => He.ga K "check_pairs", "check_pairs", "check_pairs", s_check_pairs⟩
def d_11 : FD := ⟨fun K => He.ma K (He.ga K "Polygon") "__init__", "__init__", "Polygon.__init__", s_Polygon_init⟩
def d_12 : FD := ⟨fun K => ra K (pa K (He.ga K "Polygon") "parse") "classmethod", "parse", "Polygon.parse", s_Polygon_parse⟩
def d_13 : FD := ⟨fun K => He.ga K "_law_made", "_law_made", "_law_made", s__law_made⟩
def d_14 : FD := ⟨fun K => He.ma K (He.ga K "Polygon") "__len__", "__len__", "Polygon.__len__", s_Polygon_len⟩
def d_15 : FD := ⟨fun K => He.ga K "minus", "minus", "minus", s_minus⟩
def d_16 : FD := ⟨fun K => He.ga K "sides_of", "sides_of", "sides_of", s_sides_of⟩
def d_17 : FD := ⟨fun K => ra K (He.ma K (He.ga K "Polygon") "sticks") "property", "sticks", "Polygon.sticks", s_Polygon_sticks⟩
def d_18 : FD := ⟨fun K => He.ma K (He.ga K "StickCount") "__init__", "__init__", "StickCount.__init__", s_StickCount_init⟩
def d_19 : FD := ⟨fun K => He.ma K (He.ga K "StickCount") "holds", "holds", "StickCount.holds", s_StickCount_holds⟩
def d_20 : FD := ⟨fun K => He.ga K "differences", "differences", "differences", s_differences⟩
def d_21 : FD := ⟨fun K => He.ma K (He.ga K "Congruence") "_vanishes", "_vanishes", "Congruence._vanishes", s_Congruencevanishes⟩
def d_22 : FD := ⟨fun K => He.ma K (He.ga K "Congruence") "holds", "holds", "Congruence.holds", s_Congruence_holds⟩
def d_23 : FD := ⟨fun K => He.ga K "mixed", "mixed", "mixed", s_mixed⟩
def d_24 : FD := ⟨fun K => He.ga K "cleared", "cleared", "cleared", s_cleared⟩
def d_25 : FD := ⟨fun K => He.ga K "basis", "basis", "basis", s_basis⟩
def d_26 : FD := ⟨fun K => He.ma K (He.ga K "Congruence") "__init__", "__init__", "Congruence.__init__", s_Congruence_init⟩
def d_27 : FD := ⟨fun K => He.ga K "congruences", "congruences", "congruences", s_congruences⟩
def d_28 : FD := ⟨fun K => He.ga K "reason_against", "reason_against", "reason_against", s_reason_against⟩
def d_29 : FD := ⟨fun K => He.ga K "_law_some_reasons", "_law_some_reasons", "_law_some_reasons", s__law_some_reasons⟩
def d_30 : FD := ⟨fun K => He.ga K "_law_due", "_law_due", "_law_due", s__law_due⟩
def d_31 : FD := ⟨fun K => He.ga K "_law_text", "_law_text", "_law_text", s__law_text⟩
def d_32 : FD := ⟨fun K => He.ga K "_law_key", "_law_key", "_law_key", s__law_key⟩
def d_33 : FD := ⟨fun K => He.ma K (He.ga K "Reason") "holds", "holds", "Reason.holds", s_Reason_holds⟩
def d_34 : FD := ⟨fun K => He.ma K (He.ga K "JointCount") "holds", "holds", "JointCount.holds", s_JointCount_holds⟩
def d_35 : FD := ⟨fun K => He.ma K (He.ga K "Reason") "told", "told", "Reason.told", s_Reason_told⟩
def d_36 : FD := ⟨fun K => He.ma K (He.ga K "JointCount") "told", "told", "JointCount.told", si_told_JC⟩
def d_37 : FD := ⟨fun K => He.ma K (He.ga K "StickCount") "told", "told", "StickCount.told", si_told_SC⟩
def d_38 : FD := ⟨fun K => He.ma K (He.ga K "Congruence") "told", "told", "Congruence.told", si_told_CG⟩
def d_39 : FD := ⟨fun K => He.ma K (He.ga K "Reason") "__eq__", "__eq__", "Reason.__eq__", s_Reason_eq⟩
def d_40 : FD := ⟨fun K => He.ma K (He.ga K "JointCount") "__eq__", "__eq__", "JointCount.__eq__", s_JointCount_eq⟩
def d_41 : FD := ⟨fun K => He.ma K (He.ga K "StickCount") "__eq__", "__eq__", "StickCount.__eq__", s_StickCount_eq⟩
def d_42 : FD := ⟨fun K => He.ma K (He.ga K "Congruence") "__eq__", "__eq__", "Congruence.__eq__", s_Congruence_eq⟩
def d_43 : FD := ⟨fun K => He.ga K "law", "law", "law", s_law⟩
def fds : List FD := [d_0, d_1, d_2, d_3, d_4, d_5, d_6, d_7, d_8, d_9, d_10, d_11, d_12, d_13, d_14, d_15, d_16, d_17, d_18, d_19, d_20, d_21, d_22, d_23, d_24, d_25, d_26, d_27, d_28, d_29, d_30, d_31, d_32, d_33, d_34, d_35, d_36, d_37, d_38, d_39, d_40, d_41, d_42, d_43]
abbrev hk : PySem.W.Hook := hook as_ okAll fds
def ob (s : PySem.W.SharedT) : Al := obsG as_ okAll fds (HandSHeadRun.getT s)
theorem ob_eq (s : PySem.W.SharedT) : ob s = hk.obs s.abs := obsG_eq (HandSHeadRun.getT_eq s)
end Hd
set_option maxHeartbeats 0
namespace Hd
open PySem L2 Wk
open HandSHeadRun
noncomputable abbrev ends (w : World) (os : OsState) := endF (stepQ (denQ tabQ) R.prog w) 12000 R.prog w os
theorem runL (w : World) (os : OsState) : (ends w os).map (fun s => looksF R.prog (PySem.W.boot_heap w.params) s.abs) = some true := by
  kernel_rfl
theorem runS (w : World) (os : OsState) : (ends w os).map (fun s => seenQ qv names (importedModules R.prog.main.body) (fun s => PySem.W.xlAt qv [] s && PySem.W.recOk R.toRowW.records s) s.abs) = some (PySem.W.openGood qv names) := by
  kernel_rfl
theorem runG0 (w : World) (os : OsState) : (ends w os).map (fun s => okG0 (He.frG (getT s) as_)) = some true := by
  kernel_rfl
theorem runG1 (w : World) (os : OsState) : (ends w os).map (fun s => okG1 (He.frG (getT s) as_)) = some true := by
  kernel_rfl
theorem runG2 (w : World) (os : OsState) : (ends w os).map (fun s => okG2 (He.frG (getT s) as_)) = some true := by
  kernel_rfl
theorem runF (w : World) (os : OsState) : (ends w os).map (fun s => fds.map fun d => fnV (He.frG (getT s) as_) (d.at_ (He.frG (getT s) as_))) = some (fds.map FD.val) := by
  kernel_rfl
theorem run (w : World) : RunEq R qv hk ob 12000 names w := by
  intro os
  have l := runL w os
  have s := runS w os
  have r0 := runG0 w os
  have r1 := runG1 w os
  have r2 := runG2 w os
  have f := runF w os
  show (ends w os).map _ = _
  cases h : ends w os with
  | none =>
    rw [h] at l
    cases l
  | some x =>
    rw [h] at l s f
    rw [h] at r0
    have r0 : okG0 _ = true := Option.some.inj r0
    rw [h] at r1
    have r1 : okG1 _ = true := Option.some.inj r1
    rw [h] at r2
    have r2 : okG2 _ = true := Option.some.inj r2
    have l := Option.some.inj l
    have s := Option.some.inj s
    have f := Option.some.inj f
    show some (looksF R.prog (PySem.W.boot_heap w.params) x.abs, seenQ qv names (importedModules R.prog.main.body) (fun s => PySem.W.xlAt qv [] s && PySem.W.recOk R.toRowW.records s) x.abs, ob x) = _
    have e : ob x = val fds := by
      show ((okAll (He.frG (getT x) as_), _) : Al) = (true, _)
      exact Prod.ext (by
        show okAll _ = true
        unfold okAll
        simp only [r0, r1, r2, Bool.and_true]) f
    rw [e]
    exact congrArg some (Prod.ext l (Prod.ext s rfl))
end Hd
namespace Wk
open PySem L2 Evl
end Wk
namespace Wk
open PySem L2 Evl
abbrev sFwd : Str := "("
abbrev sBwd : Str := "~("
abbrev sCls : Str := ")"
abbrev sStar : Str := "*"
def jointW : List Str := ["0", "1", "2", "3", "4", "5", "6", "7"]
def tTru (K : PySem.W.Frag) (te : TE) : TT := fun σ H Q => te σ H fun x H' => ∃ k, TruV K x H' k ∧ Q k H'
theorem pt_tru {X : Cx} {e : Expr} {te : TE} (h : PE X e te) (he : ∀ whole, isTrue e X.env whole = (do let v ← whole; standAt e.pos; holding [v] (truthy v)) := by intro _; rfl) : PT X e (tTru X.K te) := pt_truth h he
end Wk
namespace Wk
open PySem PySem.Spec PyProof.Rows L2
end Wk
namespace Wk
open PySem L2 Evl
def jntV (w : Str) : Int := match PySem.intText? w with
  | some i => i
  | none => 0
end Wk
namespace Wk
open PySem L2 Evl
/-- a right token and its reading -/
inductive RT : Str → Str × Int → Prop
  | opn {w : Str} : w = sFwd ∨ w = sBwd → RT w (w, 1)
  | pln {w : Str} : w = sCls ∨ w ∈ jointW → RT w (w, 1)
  | str {w : Str} {c : Int} : w = sCls ∨ w ∈ jointW → 0 ≤ c → c ≤ 10 ^ 18 → RT (w ++ (sStar ++ wI c)) (w, c)
/-- right tokens, one by one -/
inductive RTs : List Str → List (Str × Int) → Prop
  | nil : RTs [] []
  | cons {t : Str} {x : Str × Int} {ts : List Str} {ws : List (Str × Int)} : RT t x → RTs ts ws → RTs (t :: ts) (x :: ws)
theorem RTs.length {ts : List Str} {ws : List (Str × Int)} (h : RTs ts ws) : ts.length = ws.length := by
  induction h with
  | nil => rfl
  | cons _ _ ih => rw [List.length_cons, List.length_cons, ih]
theorem RTs.append {ts us : List Str} {ws vs : List (Str × Int)} (h : RTs ts ws) (h2 : RTs us vs) : RTs (ts ++ us) (ws ++ vs) := by
  induction h with
  | nil => exact h2
  | cons a _ ih => exact .cons a ih
theorem RTs.one {t : Str} {x : Str × Int} (h : RT t x) : RTs [t] [x] := .cons h .nil
theorem RTs.get {ts : List Str} {ws : List (Str × Int)} (h : RTs ts ws) : ∀ {i : Nat} {t : Str}, ts[i]? = some t → ∃ x, ws[i]? = some x ∧ RT t x := by
  induction h with
  | nil => intro i t e; simp at e
  | cons a _ ih =>
    intro i t e
    cases i with
    | zero =>
      simp at e
      subst e
      exact ⟨_, rfl, a⟩
    | succ i =>
      obtain ⟨x, h1, h2⟩ := ih (i := i) (by simpa using e)
      exact ⟨x, by simpa using h1, h2⟩
theorem RTs.mem {ts : List Str} {ws : List (Str × Int)} (h : RTs ts ws) {t : Str} (ht : t ∈ ts) : ∃ x, RT t x := by
  obtain ⟨i, hi⟩ := List.mem_iff_getElem?.mp ht
  obtain ⟨x, _, h2⟩ := h.get hi
  exact ⟨x, h2⟩
/-- a script as it is drawn, and the flips that it plays: n sides, counts up to B, d levels, m steps -/
inductive Seg (n : Nat) (B : Nat) : Nat → Nat → List (Str × Int) → List Nat → Prop
  | nil {d : Nat} : Seg n B d 0 [] []
  | jnt {d m : Nat} {ws : List (Str × Int)} {js : List Nat} {w : Str} {j c : Nat} : Seg n B d m ws js → w ∈ jointW → jntV w = (j : Int) → j < n → c ≤ B → Seg n B d (m + 1) (ws ++ [(w, (c : Int))]) (js ++ List.replicate c j)
  | grp {d m k : Nat} {ws us : List (Str × Int)} {js is : List Nat} {h : Str} {c : Nat} : Seg n B (d + 1) m ws js → Seg n B d k us is → k ≤ 3 → h = sFwd ∨ h = sBwd → c ≤ B →
      Seg n B (d + 1) (m + 1) (ws ++ [(h, 1)] ++ us ++ [(sCls, (c : Int))]) (js ++ (List.replicate c (if h = sBwd then is.reverse else is)).flatten)
end Wk
namespace Wk
open PySem PySem.Spec PyProof.Rows L2 Evl
end Wk
namespace Wk
open PySem PySem.Spec PyProof.Rows L2 Evl
section
variable {K : PySem.W.Frag} {ρ : Rho} {M : Mm} {Φ : Dt → Mm → Prop} {ta : TA}
/-- a list + data is a new list that may change -/
theorem rx_add_lstC {xs ys : List Dt} (hl : xs.length + ys.length ≤ sizeLine) (z : ∀ a, M a = none → Φ (.raw (.ref a)) (put M a (.lst (xs ++ ys)))) : RX K (rAddA K) (.lst xs) (.lst ys) M Φ := fun B H H1 vx vy o rx ry Q q => by
  obtain ⟨a, us, rfl, h1, r1⟩ := rx.lst_inv
  obtain ⟨b, ws, rfl, h2, r2⟩ := ry.lst_inv
  refine .inr (.inr (.inr ⟨a, b, us, ws, rfl, rfl, o.h _ _ h1, o.h _ _ h2, by rw [r1.length, r2.length]; exact hl, fun p hp => ?_⟩))
  exact q _ _ _ H _ (z p (o.noMem hp)) (o.cell hp ⟨_, upd_same, r1.append r2⟩) (Ex.refl H) (.raw _)
/-- what is no more looked at is forgotten -/
theorem sx_sub {ts : TS} {M' : Mm} {E : Es} (hs : Sub M' M) (h : SX K ts ρ M' E) : SX K ts ρ M E := fun B H H1 σ D o s r => h B H H1 σ D (o.sub hs) s r
theorem _root_.Wk.Cal.imp {P : Program} {w : World} {mg : Str → Option Value} {base : Heap} {x : Str} {k : Nat} {sp sp' : Sp} (c : Cal P w K mg base k x sp) (h : ∀ vs H Q E, sp' vs H Q E → sp vs H Q E) : Cal P w K mg base k x sp' := by
  obtain ⟨f, fd, ps, F, a, b, d⟩ := c.ex
  exact ⟨f, fd, ps, F.imp h, a, b, d⟩
end
end Wk
namespace Wk
open PySem L2 Evl
end Wk
namespace Wk
open PySem L2 Evl
abbrev jI (js : List Nat) : List Int := js.map fun (j : Nat) => (j : Int)
def bdF (B d m : Nat) : Nat := m * (B * (3 * B) ^ d)
/-- a script as the laws draw it -/
def Drawn (n : Nat) (ts : List Str) (ws : List (Str × Int)) (js : List Nat) : Prop := ∃ B d m, RTs ts ws ∧ Seg n B d m ws js ∧ 1 ≤ B ∧ B ≤ 10 ^ 18 ∧ d ≤ 6 ∧ bdF B d m ≤ 12000000 ∧ ts.length ≤ 1500
end Wk
namespace Wk
open PySem L2 Evl
end Wk
namespace Wk
open PySem L2 Evl
/-- a script as it is put together, without a bound of its size -/
inductive SegU (n : Nat) (B : Nat) : Nat → Nat → List (Str × Int) → List Nat → Prop
  | nil {d : Nat} : SegU n B d 0 [] []
  | jnt {d m : Nat} {ws : List (Str × Int)} {js : List Nat} {w : Str} {j c : Nat} : SegU n B d m ws js → w ∈ jointW → jntV w = (j : Int) → j < n → c ≤ B → SegU n B d (m + 1) (ws ++ [(w, (c : Int))]) (js ++ List.replicate c j)
  | grp {d m k : Nat} {ws us : List (Str × Int)} {js is : List Nat} {h : Str} {c : Nat} : SegU n B (d + 1) m ws js → SegU n B d k us is → k ≤ 1000000 → h = sFwd ∨ h = sBwd → c ≤ B →
      SegU n B (d + 1) (m + 1) (ws ++ [(h, 1)] ++ us ++ [(sCls, (c : Int))]) (js ++ (List.replicate c (if h = sBwd then is.reverse else is)).flatten)
/-- a script that may be put together with others -/
def Part (n : Nat) (ts : List Str) (ws : List (Str × Int)) (js : List Nat) : Prop := (∃ m, SegU n (10 ^ 18) 2 m ws js ∧ m ≤ 1000) ∧ RTs ts ws ∧ js.length ≤ 2 ^ 100 ∧ ts.length ≤ 51
end Wk
namespace Wk
open PySem L2 Evl
section
variable (K : PySem.W.Frag) (C : Addr)
structure Scr where
  ts : List Str
  ws : List (Str × Int)
  js : List Nat
abbrev Scr.ok (n : Nat) (s : Scr) : Prop := Part n s.ts s.ws s.js
end
end Wk
namespace Wk
open PySem L2 Evl
theorem call_isiKK {X : Cx} {K : PySem.W.Frag} (e : X.K = K) : CallR X (.builtin "isinstance") (rIsi K) := by subst e; exact call_isi
end Wk
namespace Wk
open PySem L2 Evl
/-- joints whose flips only move the polygons with these sticks -/
def Eff (n : Nat) (es : List Pt) (js : List Nat) (v : Pt) : Prop := ∀ ps : List Pt, ps.length = n → sticksP ps = es → flips ps (jI js) = ps.map fun p => addP p v
inductive Loops (n : Nat) (es : List Pt) : List (List Nat × Nat) → List Pt → Prop
  | nil : Loops n es [] []
  | cons {x : List Nat × Nat} {v : Pt} {lc : List (List Nat × Nat)} {vs : List Pt} : (∀ j ∈ x.1, j < n) → 1 ≤ x.1.length ∧ x.1.length ≤ 20 → Eff n es x.1 v → Loops n es lc vs → Loops n es (x :: lc) (v :: vs)
theorem Loops.len {n : Nat} {es : List Pt} {lc : List (List Nat × Nat)} {vs : List Pt} (h : Loops n es lc vs) : ∀ x ∈ lc, 1 ≤ x.1.length := by
  induction h with
  | nil => intro x hx; cases hx
  | cons h1 h2 h3 _ ih =>
    intro y hy
    rcases List.mem_cons.mp hy with rfl | hy
    · exact h2.1
    · exact ih y hy
end Wk
namespace Wk
theorem fmod_bd {r o : Int} (h : o ≠ 0) : (r.fmod o).natAbs < o.natAbs ∧ 0 ≤ r.fmod o * o ∧ o * r.fdiv o + r.fmod o = r := by
  have e := Int.mul_fdiv_add_fmod r o
  rcases Int.lt_or_gt_of_ne h with hn | hp
  · have h1 : (-r).fmod (-o) < -o := Int.fmod_lt_of_pos _ (by omega)
    have h2 : 0 ≤ (-r).fmod (-o) := Int.fmod_nonneg_of_pos _ (by omega)
    have e2 : (-r).fmod (-o) = -(r.fmod o) := by simp
    rw [e2] at h1 h2
    refine ⟨by omega, ?_, e⟩
    exact Int.mul_nonneg_of_nonpos_of_nonpos (by omega) (by omega)
  · have h1 : r.fmod o < o := Int.fmod_lt_of_pos _ hp
    have h2 : 0 ≤ r.fmod o := Int.fmod_nonneg_of_pos _ hp
    exact ⟨by omega, Int.mul_nonneg h2 (by omega), e⟩
/-- where both have one sign, sizes add up too -/
theorem fmod_sum {r o : Int} (h : o ≠ 0) (hs : 0 ≤ r * o) : r.natAbs = (r.fdiv o).natAbs * o.natAbs + (r.fmod o).natAbs := by
  obtain ⟨h1, h2, h3⟩ := fmod_bd (r := r) h
  rcases Int.lt_or_gt_of_ne h with hn | hp
  · have r0 : r ≤ 0 := by
      apply Classical.byContradiction
      intro hc
      have : r * o < 0 := Int.mul_neg_of_pos_of_neg (by omega) hn
      omega
    have m0 : r.fmod o ≤ 0 := by
      apply Classical.byContradiction
      intro hc
      have : r.fmod o * o < 0 := Int.mul_neg_of_pos_of_neg (by omega) hn
      omega
    have q0 : 0 ≤ r.fdiv o := by
      apply Classical.byContradiction
      intro hc
      have : 0 < o * (r.fdiv o) := Int.mul_pos_of_neg_of_neg hn (by omega)
      have : o * (r.fdiv o) ≥ -o := by
        have : o * (r.fdiv o) ≥ o * (-1) := Int.mul_le_mul_of_nonpos_left (by omega) (by omega)
        omega
      omega
    have e : ((r.fdiv o).natAbs * o.natAbs : Nat) = (o * r.fdiv o).natAbs := by rw [Int.natAbs_mul, Nat.mul_comm]
    have q1 : o * r.fdiv o ≤ 0 := Int.mul_nonpos_of_nonpos_of_nonneg (by omega) q0
    rw [e]
    omega
  · have r0 : 0 ≤ r := by
      apply Classical.byContradiction
      intro hc
      have : r * o < 0 := Int.mul_neg_of_neg_of_pos (by omega) hp
      omega
    have m0 : 0 ≤ r.fmod o := Int.fmod_nonneg_of_pos _ hp
    have q0 : 0 ≤ r.fdiv o := by
      apply Classical.byContradiction
      intro hc
      have : o * (r.fdiv o) ≤ o * (-1) := Int.mul_le_mul_of_nonneg_left (by omega) (by omega)
      omega
    have e : ((r.fdiv o).natAbs * o.natAbs : Nat) = (o * r.fdiv o).natAbs := by rw [Int.natAbs_mul, Nat.mul_comm]
    have q1 : 0 ≤ o * r.fdiv o := Int.mul_nonneg (by omega) q0
    rw [e]
    omega
theorem fdiv_le {r o : Int} (h : o ≠ 0) : (r.fdiv o).natAbs ≤ r.natAbs + 1 := by
  obtain ⟨h1, h2, h3⟩ := fmod_bd (r := r) h
  have e : (o * r.fdiv o).natAbs ≤ r.natAbs + o.natAbs := by omega
  rw [Int.natAbs_mul] at e
  have ho : 1 ≤ o.natAbs := by omega
  apply Classical.byContradiction
  intro hc
  have h4 : o.natAbs * (r.natAbs + 2) ≤ o.natAbs * (r.fdiv o).natAbs := Nat.mul_le_mul_left _ (by omega)
  have h5 : r.natAbs ≤ o.natAbs * r.natAbs := Nat.le_mul_of_pos_left _ ho
  rw [Nat.mul_add] at h4
  omega
def at0 (r : List Int) (c : Nat) : Int := r.getD c 0
def mixF (a : Int) (r : List Int) (b : Int) (s : List Int) : List Int := List.zipWith (fun x y => a * x + b * y) r s
theorem mix_len {a b : Int} {r s : List Int} (h : r.length = s.length) : (mixF a r b s).length = r.length := by
  unfold mixF
  rw [List.length_zipWith, h, Nat.min_self]
theorem at_mix {a b : Int} {r s : List Int} (h : r.length = s.length) (c : Nat) : at0 (mixF a r b s) c = a * at0 r c + b * at0 s c := by
  unfold at0 mixF
  rw [List.getD_eq_getElem?_getD, List.getD_eq_getElem?_getD, List.getD_eq_getElem?_getD, List.getElem?_zipWith]
  by_cases hc : c < r.length
  · rw [List.getElem?_eq_getElem hc, List.getElem?_eq_getElem (by omega)]
    rfl
  · rw [List.getElem?_eq_none (by omega), List.getElem?_eq_none (by omega)]
    simp
def clrN : Nat → List Int → List Int → Nat → List Int × List Int
  | 0, r, o, _ => (r, o)
  | n + 1, r, o, c => if at0 o c = 0 then (r, o) else clrN n o (mixF 1 r (-((at0 r c).fdiv (at0 o c))) o) c
/-- the step -/
theorem step_at {r o : List Int} {c : Nat} (h : r.length = o.length) (ho : at0 o c ≠ 0) : at0 (mixF 1 r (-((at0 r c).fdiv (at0 o c))) o) c = (at0 r c).fmod (at0 o c) := by
  rw [at_mix h]
  have e := (fmod_bd (r := at0 r c) ho).2.2
  grind
theorem clr_done : ∀ (n : Nat) (r o : List Int) (c : Nat), r.length = o.length → (at0 o c).natAbs ≤ n → at0 (clrN n r o c).2 c = 0
  | 0, r, o, c, _, h => by
    show at0 o c = 0
    omega
  | n + 1, r, o, c, hl, h => by
    unfold clrN
    by_cases h0 : at0 o c = 0
    · rw [if_pos h0]
      exact h0
    · rw [if_neg h0]
      refine clr_done n _ _ c (mix_len hl ▸ hl.symm ▸ rfl) ?_
      rw [step_at hl h0]
      have := (fmod_bd (r := at0 r c) h0).1
      omega
/-- what is kept by mixing -/
theorem clr_keep (P : List Int → Prop) (hm : ∀ a b r s, P r → P s → P (mixF a r b s)) : ∀ (n : Nat) (r o : List Int) (c : Nat), P r → P o → P (clrN n r o c).1 ∧ P (clrN n r o c).2
  | 0, _, _, _, hr, ho => ⟨hr, ho⟩
  | n + 1, r, o, c, hr, ho => by
    unfold clrN
    by_cases h0 : at0 o c = 0
    · rw [if_pos h0]
      exact ⟨hr, ho⟩
    · rw [if_neg h0]
      exact clr_keep P hm n _ _ c ho (hm _ _ _ _ hr ho)
/-- the old rows from the new ones -/
def From (r o r' o' : List Int) : Prop := (∃ p q : Int, ∀ c, at0 r c = p * at0 r' c + q * at0 o' c) ∧ ∃ p q : Int, ∀ c, at0 o c = p * at0 r' c + q * at0 o' c
theorem clr_from : ∀ (n : Nat) (r o : List Int) (c : Nat), r.length = o.length → From r o (clrN n r o c).1 (clrN n r o c).2
  | 0, r, o, _, _ => ⟨⟨1, 0, fun c => by show _ = 1 * at0 r c + 0 * at0 o c; omega⟩, 0, 1, fun c => by show _ = 0 * at0 r c + 1 * at0 o c; omega⟩
  | n + 1, r, o, c, hl => by
    unfold clrN
    by_cases h0 : at0 o c = 0
    · rw [if_pos h0]
      exact ⟨⟨1, 0, fun c => by show _ = 1 * at0 r c + 0 * at0 o c; omega⟩, 0, 1, fun c => by show _ = 0 * at0 r c + 1 * at0 o c; omega⟩
    · rw [if_neg h0]
      obtain ⟨⟨p, q, h1⟩, p2, q2, h2⟩ := clr_from n o (mixF 1 r (-((at0 r c).fdiv (at0 o c))) o) c (mix_len hl ▸ hl.symm ▸ rfl)
      refine ⟨⟨p2 + (at0 r c).fdiv (at0 o c) * p, q2 + (at0 r c).fdiv (at0 o c) * q, fun j => ?_⟩, p, q, h1⟩
      have e2 := h2 j
      rw [at_mix hl] at e2
      have e1 := h1 j
      grind
structure BdI (J : Nat → Prop) (C D : Nat) (r o : List Int) (c : Nat) : Prop where
  sg : 0 ≤ at0 r c * at0 o c
  m : ∀ j, J j → (at0 r j).natAbs * (at0 o c).natAbs + (at0 o j).natAbs * (at0 r c).natAbs ≤ C
  br : ∀ j, J j → (at0 r j).natAbs ≤ C
  bo : ∀ j, J j → (at0 o j).natAbs ≤ C
  rc : (at0 r c).natAbs ≤ D
  oc : (at0 o c).natAbs ≤ D
theorem BdI.step {J : Nat → Prop} {C D : Nat} {r o : List Int} {c : Nat} (h : BdI J C D r o c) (hl : r.length = o.length) (h0 : at0 o c ≠ 0) : BdI J C D o (mixF 1 r (-((at0 r c).fdiv (at0 o c))) o) c := by
  have e := step_at hl h0
  obtain ⟨f1, f2, f3⟩ := fmod_bd (r := at0 r c) h0
  have sm := fmod_sum h0 h.sg
  have ms : ∀ j, J j → (at0 o j).natAbs * ((at0 r c).fmod (at0 o c)).natAbs + (at0 (mixF 1 r (-((at0 r c).fdiv (at0 o c))) o) j).natAbs * (at0 o c).natAbs ≤ C := fun j hj => by
    refine Nat.le_trans ?_ (h.m j hj)
    have hz : (at0 (mixF 1 r (-((at0 r c).fdiv (at0 o c))) o) j).natAbs ≤ (at0 r j).natAbs + ((at0 r c).fdiv (at0 o c)).natAbs * (at0 o j).natAbs := by
      rw [at_mix hl, ← Int.natAbs_mul]
      have e2 : -((at0 r c).fdiv (at0 o c)) * at0 o j = -((at0 r c).fdiv (at0 o c) * at0 o j) := by rw [Int.neg_mul]
      rw [e2]
      omega
    have hz2 := Nat.mul_le_mul_right (at0 o c).natAbs hz
    rw [sm]
    grind
  refine ⟨?_, fun j hj => by rw [e]; exact ms j hj, h.bo, fun j hj => ?_, h.oc, ?_⟩
  · rw [e, Int.mul_comm]
    exact f2
  · have q := ms j hj
    have ho : 1 ≤ (at0 o c).natAbs := by omega
    have q2 : (at0 (mixF 1 r (-((at0 r c).fdiv (at0 o c))) o) j).natAbs ≤ (at0 (mixF 1 r (-((at0 r c).fdiv (at0 o c))) o) j).natAbs * (at0 o c).natAbs := Nat.le_mul_of_pos_right _ ho
    omega
  · rw [e]
    have := h.oc
    omega
theorem BdI.clr {J : Nat → Prop} {C D : Nat} {c : Nat} : ∀ {n : Nat} {r o : List Int}, BdI J C D r o c → r.length = o.length → BdI J C D (clrN n r o c).1 (clrN n r o c).2 c
  | 0, _, _, h, _ => h
  | n + 1, r, o, h, hl => by
    unfold clrN
    by_cases h0 : at0 o c = 0
    · rw [if_pos h0]
      exact h
    · rw [if_neg h0]
      exact BdI.clr (h.step hl h0) (mix_len hl ▸ hl.symm ▸ rfl)
/-- the first step brings both to one sign -/
theorem BdI.first {J : Nat → Prop} {E D : Nat} {r o : List Int} {c : Nat} (hl : r.length = o.length) (hr : ∀ j, J j → (at0 r j).natAbs ≤ E) (ho : ∀ j, J j → (at0 o j).natAbs ≤ E) (rc : (at0 r c).natAbs ≤ D) (oc : (at0 o c).natAbs ≤ D) (h0 : at0 o c ≠ 0) :
    BdI J (E * (D + 3) * (D + 1)) D o (mixF 1 r (-((at0 r c).fdiv (at0 o c))) o) c := by
  have e := step_at hl h0
  obtain ⟨f1, f2, f3⟩ := fmod_bd (r := at0 r c) h0
  have q := fdiv_le (r := at0 r c) h0
  have hz : ∀ j, J j → (at0 (mixF 1 r (-((at0 r c).fdiv (at0 o c))) o) j).natAbs ≤ E * (D + 2) := fun j hj => by
    have h1 : (at0 (mixF 1 r (-((at0 r c).fdiv (at0 o c))) o) j).natAbs ≤ (at0 r j).natAbs + ((at0 r c).fdiv (at0 o c)).natAbs * (at0 o j).natAbs := by
      rw [at_mix hl, ← Int.natAbs_mul]
      have e2 : -((at0 r c).fdiv (at0 o c)) * at0 o j = -((at0 r c).fdiv (at0 o c) * at0 o j) := by rw [Int.neg_mul]
      rw [e2]
      omega
    have h2 : ((at0 r c).fdiv (at0 o c)).natAbs * (at0 o j).natAbs ≤ (D + 1) * E := Nat.mul_le_mul (by omega) (ho j hj)
    have h3 := hr j hj
    have h4 : E * (D + 2) = E + (D + 1) * E := by grind
    omega
  have b1 : E ≤ E * (D + 3) * (D + 1) := by
    rw [Nat.mul_assoc]
    exact Nat.le_mul_of_pos_right _ (Nat.mul_pos (by omega) (by omega))
  have b2 : E * (D + 2) ≤ E * (D + 3) * (D + 1) := Nat.le_trans (Nat.mul_le_mul_left _ (by omega)) (Nat.le_mul_of_pos_right _ (by omega))
  refine ⟨by rw [e, Int.mul_comm]; exact f2, fun j hj => ?_, fun j hj => Nat.le_trans (ho j hj) b1, fun j hj => Nat.le_trans (hz j hj) b2, oc, by rw [e]; omega⟩
  rw [e]
  have h1 : (at0 o j).natAbs * ((at0 r c).fmod (at0 o c)).natAbs ≤ E * D := Nat.mul_le_mul (ho j hj) (by omega)
  have h2 : (at0 (mixF 1 r (-((at0 r c).fdiv (at0 o c))) o) j).natAbs * (at0 o c).natAbs ≤ E * (D + 2) * D := Nat.mul_le_mul (hz j hj) oc
  have h3 : E * (D + 3) * (D + 1) = E * D + E * (D + 2) * D + E * (D + 3) := by grind
  omega
/-- all entries, whatever the rows -/
theorem clr_bd {J : Nat → Prop} {E D n : Nat} {r o : List Int} {c : Nat} (hl : r.length = o.length) (hr : ∀ j, J j → (at0 r j).natAbs ≤ E) (ho : ∀ j, J j → (at0 o j).natAbs ≤ E) (rc : (at0 r c).natAbs ≤ D) (oc : (at0 o c).natAbs ≤ D) :
    (∀ j, J j → (at0 (clrN n r o c).1 j).natAbs ≤ E * (D + 3) * (D + 1) ∧ (at0 (clrN n r o c).2 j).natAbs ≤ E * (D + 3) * (D + 1)) ∧ (at0 (clrN n r o c).1 c).natAbs ≤ D := by
  have b1 : E ≤ E * (D + 3) * (D + 1) := by
    rw [Nat.mul_assoc]
    exact Nat.le_mul_of_pos_right _ (Nat.mul_pos (by omega) (by omega))
  cases n with
  | zero => exact ⟨fun j hj => ⟨Nat.le_trans (hr j hj) b1, Nat.le_trans (ho j hj) b1⟩, rc⟩
  | succ n =>
    unfold clrN
    by_cases h0 : at0 o c = 0
    · rw [if_pos h0]
      exact ⟨fun j hj => ⟨Nat.le_trans (hr j hj) b1, Nat.le_trans (ho j hj) b1⟩, rc⟩
    · rw [if_neg h0]
      have q := (BdI.first (J := J) hl hr ho rc oc h0).clr (n := n) (mix_len hl ▸ hl.symm ▸ rfl)
      exact ⟨fun j hj => ⟨q.br j hj, q.bo j hj⟩, q.rc⟩
end Wk
namespace Wk
def clrF (r o : List Int) (c : Nat) : List Int × List Int :=
  (if at0 (clrN (at0 o c).natAbs r o c).1 c < 0 then mixF (-1) (clrN (at0 o c).natAbs r o c).1 0 (clrN (at0 o c).natAbs r o c).1 else (clrN (at0 o c).natAbs r o c).1, (clrN (at0 o c).natAbs r o c).2)
section
variable {r o : List Int} {c : Nat}
theorem clrF_zero (hl : r.length = o.length) : at0 (clrF r o c).2 c = 0 := clr_done _ r o c hl (Nat.le_refl _)
theorem clrF_keep (P : List Int → Prop) (hm : ∀ a b r s, P r → P s → P (mixF a r b s)) (hr : P r) (ho : P o) : P (clrF r o c).1 ∧ P (clrF r o c).2 := by
  obtain ⟨h1, h2⟩ := clr_keep P hm (at0 o c).natAbs r o c hr ho
  refine ⟨?_, h2⟩
  unfold clrF
  dsimp only
  split
  · exact hm _ _ _ _ h1 h1
  · exact h1
theorem clrF_nonneg : 0 ≤ at0 (clrF r o c).1 c := by
  unfold clrF
  dsimp only
  split
  · rename_i h
    rw [at_mix rfl]
    omega
  · omega
theorem neg_at {s : List Int} (j : Nat) : at0 (mixF (-1) s 0 s) j = -at0 s j := by
  rw [at_mix rfl]
  omega
theorem clrF_from (hl : r.length = o.length) : From r o (clrF r o c).1 (clrF r o c).2 := by
  obtain ⟨⟨p, q, h1⟩, p2, q2, h2⟩ := clr_from (at0 o c).natAbs r o c hl
  unfold clrF
  dsimp only
  split
  · refine ⟨⟨-p, q, fun j => ?_⟩, -p2, q2, fun j => ?_⟩
    · rw [neg_at, h1 j]
      grind
    · rw [neg_at, h2 j]
      grind
  · exact ⟨⟨p, q, h1⟩, p2, q2, h2⟩
theorem clrF_bd {J : Nat → Prop} {E D : Nat} (hl : r.length = o.length) (hr : ∀ j, J j → (at0 r j).natAbs ≤ E) (ho : ∀ j, J j → (at0 o j).natAbs ≤ E) (rc : (at0 r c).natAbs ≤ D) (oc : (at0 o c).natAbs ≤ D) :
    (∀ j, J j → (at0 (clrF r o c).1 j).natAbs ≤ E * (D + 3) * (D + 1) ∧ (at0 (clrF r o c).2 j).natAbs ≤ E * (D + 3) * (D + 1)) ∧ (at0 (clrF r o c).1 c).natAbs ≤ D := by
  obtain ⟨h1, h2⟩ := clr_bd (n := (at0 o c).natAbs) hl hr ho rc oc
  unfold clrF
  dsimp only
  split
  · refine ⟨fun j hj => ⟨?_, (h1 j hj).2⟩, ?_⟩
    · rw [neg_at, Int.natAbs_neg]
      exact (h1 j hj).1
    · rw [neg_at, Int.natAbs_neg]
      exact h2
  · exact ⟨h1, h2⟩
theorem clrF_len (hl : r.length = o.length) : (clrF r o c).1.length = r.length ∧ (clrF r o c).2.length = r.length :=
  clrF_keep (fun s => s.length = r.length) (fun a b x y hx hy => by rw [mix_len (hx.trans hy.symm)]; exact hx) rfl hl.symm
/-- nothing to clear -/
theorem clrF_none (h0 : at0 o c = 0) (hr : 0 ≤ at0 r c) : clrF r o c = (r, o) := by
  unfold clrF
  rw [h0]
  show (if at0 r c < 0 then _ else r, o) = _
  rw [if_neg (by omega)]
end
def dotP : List Int → List (Int × Int) → Int × Int
  | c :: cs, v :: vs => (c * v.1 + (dotP cs vs).1, c * v.2 + (dotP cs vs).2)
  | _, _ => (0, 0)
theorem dot_mix {a b : Int} : ∀ {cs ds : List Int} {vs : List (Int × Int)}, cs.length = vs.length → ds.length = vs.length → dotP (mixF a cs b ds) vs = (a * (dotP cs vs).1 + b * (dotP ds vs).1, a * (dotP cs vs).2 + b * (dotP ds vs).2)
  | [], [], [], _, _ => by
    show ((0 : Int), (0 : Int)) = (a * 0 + b * 0, a * 0 + b * 0)
    simp
  | c :: cs, d :: ds, v :: vs, h1, h2 => by
    have ih := dot_mix (a := a) (b := b) (cs := cs) (ds := ds) (vs := vs) (by simpa using h1) (by simpa using h2)
    show ((a * c + b * d) * v.1 + (dotP (mixF a cs b ds) vs).1, (a * c + b * d) * v.2 + (dotP (mixF a cs b ds) vs).2) = (a * (c * v.1 + (dotP cs vs).1) + b * (d * v.1 + (dotP ds vs).1), a * (c * v.2 + (dotP cs vs).2) + b * (d * v.2 + (dotP ds vs).2))
    rw [ih]
    exact Prod.ext (by grind) (by grind)
  | [], d :: ds, [], _, h2 => by cases h2
  | c :: cs, _, [], h1, _ => by cases h1
  | [], _, v :: vs, h1, _ => by cases h1
  | c :: cs, [], v :: vs, _, h2 => by cases h2
structure Cons (vs : List (Int × Int)) (r : List Int) : Prop where
  ex : ∃ x y cs, r = x :: y :: cs ∧ cs.length = vs.length ∧ dotP cs vs = (x, y)
theorem Cons.mix {vs : List (Int × Int)} {a b : Int} {r s : List Int} (hr : Cons vs r) (hs : Cons vs s) : Cons vs (mixF a r b s) := by
  obtain ⟨x, y, cs, rfl, h1, h2⟩ := hr.ex
  obtain ⟨x2, y2, ds, rfl, h3, h4⟩ := hs.ex
  refine ⟨a * x + b * x2, a * y + b * y2, mixF a cs b ds, rfl, by rw [mix_len (h1.trans h3.symm), h1], ?_⟩
  rw [dot_mix h1 h3, h2, h4]
theorem Cons.len {vs : List (Int × Int)} {r : List Int} (h : Cons vs r) : r.length = vs.length + 2 := by
  obtain ⟨x, y, cs, rfl, h1, h2⟩ := h.ex
  rw [List.length_cons, List.length_cons, h1]
def zeroF (n : Nat) : List Int := List.replicate (n + 2) 0
theorem dot_zero : ∀ (vs : List (Int × Int)), dotP (List.replicate vs.length 0) vs = (0, 0)
  | [] => rfl
  | v :: vs => by
    show ((0 : Int) * v.1 + (dotP (List.replicate vs.length 0) vs).1, (0 : Int) * v.2 + (dotP (List.replicate vs.length 0) vs).2) = _
    rw [dot_zero vs]
    simp
theorem cons_zero (vs : List (Int × Int)) : Cons vs (zeroF vs.length) := ⟨0, 0, List.replicate vs.length 0, rfl, List.length_replicate, dot_zero vs⟩
theorem at_zero (n c : Nat) : at0 (zeroF n) c = 0 := by
  unfold at0 zeroF
  rw [List.getD_eq_getElem?_getD, List.getElem?_replicate]
  split <;> rfl
def unitF (n i : Nat) : List Int := (List.range n).map fun j => if j = i then 1 else 0
theorem dot_unit : ∀ (vs : List (Int × Int)) (s i : Nat), s ≤ i → dotP ((List.range' s vs.length).map fun j => if j = i then (1 : Int) else 0) vs = vs.getD (i - s) (0, 0)
  | [], s, i, _ => by simp [dotP]
  | v :: vs, s, i, h => by
    show dotP ((List.range' s (vs.length + 1)).map fun j => if j = i then (1 : Int) else 0) (v :: vs) = _
    rw [List.range'_succ, List.map_cons]
    show ((if s = i then (1 : Int) else 0) * v.1 + (dotP _ vs).1, (if s = i then (1 : Int) else 0) * v.2 + (dotP _ vs).2) = _
    by_cases e : s = i
    · subst e
      rw [if_pos rfl, Nat.sub_self]
      have z : dotP ((List.range' (s + 1) vs.length).map fun j => if j = s then (1 : Int) else 0) vs = (0, 0) := by
        have e2 : (List.range' (s + 1) vs.length).map (fun j => if j = s then (1 : Int) else 0) = List.replicate vs.length 0 := by
          rw [List.eq_replicate_iff]
          refine ⟨by simp, fun b hb => ?_⟩
          obtain ⟨j, hj, rfl⟩ := List.mem_map.mp hb
          have := (List.mem_range'.mp hj)
          rw [if_neg (by obtain ⟨k, _, rfl⟩ := this; omega)]
        rw [e2, dot_zero]
      rw [z]
      exact Prod.ext (by simp) (by simp)
    · rw [if_neg e, dot_unit vs (s + 1) i (by omega), show i - s = (i - (s + 1)) + 1 by omega]
      exact Prod.ext (by simp) (by simp)
theorem cons_unit {vs : List (Int × Int)} {i : Nat} {v : Int × Int} (h : vs[i]? = some v) : Cons vs (v.1 :: v.2 :: unitF vs.length i) := by
  refine ⟨v.1, v.2, unitF vs.length i, rfl, by unfold unitF; rw [List.length_map, List.length_range], ?_⟩
  have q := dot_unit vs 0 i (Nat.zero_le _)
  unfold unitF
  rw [List.range_eq_range', q, Nat.sub_zero, List.getD_eq_getElem?_getD, h]
  rfl
def basStep (n : Nat) (p : List Int × List Int) (i : Nat) (v : Int × Int) : List Int × List Int :=
  let a := clrF p.1 (v.1 :: v.2 :: unitF n i) 0
  let b := clrF p.2 a.2 1
  (if at0 b.1 1 ≠ 0 then mixF 1 a.1 (-((at0 a.1 1).fdiv (at0 b.1 1))) b.1 else a.1, b.1)
def basFrom (n : Nat) : List (Int × Int) → Nat → List Int × List Int → List Int × List Int
  | [], _, p => p
  | v :: vs, i, p => basFrom n vs (i + 1) (basStep n p i v)
def basF (vs : List (Int × Int)) : List Int × List Int := basFrom vs.length vs 0 (zeroF vs.length, zeroF vs.length)
def SpZ (r s : List Int) (v : Int × Int) : Prop := ∃ a b : Int, v.1 = a * at0 r 0 + b * at0 s 0 ∧ v.2 = a * at0 r 1 + b * at0 s 1
def mB (V k : Nat) : Nat := V * ((V + 3) * (V + 1)) ^ k
def eB (V : Nat) : Nat → Nat
  | 0 => V
  | k + 1 => eB V k * ((V + 3) * (V + 1)) * ((mB V (k + 1) + 3) * (mB V (k + 1) + 1)) * (mB V (k + 1) + 3)
structure BInv (vs : List (Int × Int)) (V k : Nat) (p : List Int × List Int) : Prop where
  cf : Cons vs p.1
  cs : Cons vs p.2
  s0 : at0 p.2 0 = 0
  f0 : 0 ≤ at0 p.1 0
  s1 : 0 ≤ at0 p.2 1
  fz : at0 p.1 0 = 0 → at0 p.1 1 = 0
  gen : ∀ i v, i < k → vs[i]? = some v → SpZ p.1 p.2 v
  b0 : (at0 p.1 0).natAbs ≤ V
  bf : (at0 p.1 1).natAbs ≤ mB V k
  bs : (at0 p.2 1).natAbs ≤ mB V k
  ef : ∀ j, (at0 p.1 j).natAbs ≤ eB V k
  es : ∀ j, (at0 p.2 j).natAbs ≤ eB V k
theorem BInv.start {vs : List (Int × Int)} {V : Nat} : BInv vs V 0 (zeroF vs.length, zeroF vs.length) where
  cf := cons_zero vs
  cs := cons_zero vs
  s0 := at_zero _ _
  f0 := by rw [at_zero]; exact Int.le_refl _
  s1 := by rw [at_zero]; exact Int.le_refl _
  fz := fun _ => at_zero _ _
  gen := fun i v h => by omega
  b0 := by rw [at_zero]; exact Nat.zero_le _
  bf := by rw [at_zero]; exact Nat.zero_le _
  bs := by rw [at_zero]; exact Nat.zero_le _
  ef := fun j => by rw [at_zero]; exact Nat.zero_le _
  es := fun j => by rw [at_zero]; exact Nat.zero_le _
end Wk
namespace Wk
theorem mB_succ (V k : Nat) : mB V (k + 1) = mB V k * (V + 3) * (V + 1) := by
  unfold mB
  rw [Nat.pow_succ]
  grind
theorem le_mul3 (a b c : Nat) : a ≤ a * (b + 3) * (c + 1) := by
  rw [Nat.mul_assoc]
  exact Nat.le_mul_of_pos_right _ (Nat.mul_pos (by omega) (by omega))
theorem mB_le (V k : Nat) : mB V k ≤ mB V (k + 1) := by
  rw [mB_succ]
  exact le_mul3 _ _ _
theorem V_mB (V : Nat) : ∀ k : Nat, V ≤ mB V k
  | 0 => by
    unfold mB
    simp
  | k + 1 => Nat.le_trans (V_mB V k) (mB_le V k)
theorem eB_succ (V k : Nat) : eB V (k + 1) = eB V k * (V + 3) * (V + 1) * (mB V (k + 1) + 3) * (mB V (k + 1) + 1) * (mB V (k + 1) + 3) := by
  show eB V k * ((V + 3) * (V + 1)) * ((mB V (k + 1) + 3) * (mB V (k + 1) + 1)) * (mB V (k + 1) + 3) = _
  rw [← Nat.mul_assoc, ← Nat.mul_assoc]
theorem V_eB (V : Nat) : ∀ k : Nat, V ≤ eB V k
  | 0 => Nat.le_refl _
  | k + 1 => by
    rw [eB_succ]
    exact Nat.le_trans (Nat.le_trans (Nat.le_trans (V_eB V k) (le_mul3 _ _ _)) (le_mul3 _ _ _)) (Nat.le_mul_of_pos_right _ (by omega))
theorem unit_at (n i j : Nat) : (at0 (unitF n i) j).natAbs ≤ 1 := by
  unfold at0 unitF
  rw [List.getD_eq_getElem?_getD, List.getElem?_map]
  cases (List.range n)[j]? with
  | none => exact Nat.zero_le _
  | some a =>
    show (if a = i then (1 : Int) else 0).natAbs ≤ 1
    split <;> decide
theorem row_at {n i V : Nat} {v : Int × Int} (hV : 1 ≤ V) (b1 : v.1.natAbs ≤ V) (b2 : v.2.natAbs ≤ V) (j : Nat) : (at0 (v.1 :: v.2 :: unitF n i) j).natAbs ≤ V := by
  match j with
  | 0 => exact b1
  | 1 => exact b2
  | j + 2 => exact Nat.le_trans (unit_at n i j) hV
theorem BInv.next {vs : List (Int × Int)} {V k : Nat} {p : List Int × List Int} {v : Int × Int} (h : BInv vs V k p) (hv : vs[k]? = some v) (hV : 1 ≤ V) (b1 : v.1.natAbs ≤ V) (b2 : v.2.natAbs ≤ V) : BInv vs V (k + 1) (basStep vs.length p k v) := by
  obtain ⟨f, s⟩ := p
  have cr := cons_unit hv
  have lf := h.cf.len
  have ls := h.cs.len
  have lr := cr.len
  dsimp only at lf ls lr
  unfold basStep
  dsimp only
  have l1 : f.length = (v.1 :: v.2 :: unitF vs.length k).length := lf.trans lr.symm
  have r0 : at0 (v.1 :: v.2 :: unitF vs.length k) 0 = v.1 := rfl
  have r1 : at0 (v.1 :: v.2 :: unitF vs.length k) 1 = v.2 := rfl
  generalize hrow : v.1 :: v.2 :: unitF vs.length k = row at *
  have rb : ∀ j, (at0 row j).natAbs ≤ V := fun j => by
    rw [← hrow]
    exact row_at hV b1 b2 j
  obtain ⟨ca1, ca2⟩ := clrF_keep (c := 0) (Cons vs) (fun a b x y hx hy => hx.mix hy) h.cf cr
  have a20 := clrF_zero (c := 0) l1
  have a10 := clrF_nonneg (r := f) (o := row) (c := 0)
  obtain ⟨⟨p1, q1, e1⟩, p2, q2, e2⟩ := clrF_from (c := 0) l1
  have ba := clrF_bd (J := fun _ => True) (c := 0) (E := eB V k) (D := V) l1 (fun j _ => h.ef j) (fun j _ => Nat.le_trans (rb j) (V_eB V k)) h.b0 (rb 0)
  have ba1 := clrF_bd (J := fun j => j = 1) (c := 0) (E := mB V k) (D := V) l1 (fun j hj => by rw [hj]; exact h.bf) (fun j _ => Nat.le_trans (rb j) (V_mB V k)) h.b0 (rb 0)
  have nop : v.1 = 0 → at0 f 0 = 0 → (clrF f row 0).1 = f := fun z1 z2 => by
    rw [clrF_none (by rw [r0]; exact z1) (by rw [z2]; exact Int.le_refl _)]
  generalize (clrF f row 0).1 = A at *
  generalize (clrF f row 0).2 = R at *
  have lR := ca2.len
  have lA := ca1.len
  have l2 : s.length = R.length := ls.trans lR.symm
  obtain ⟨cb1, cb2⟩ := clrF_keep (c := 1) (Cons vs) (fun a b x y hx hy => hx.mix hy) h.cs ca2
  obtain ⟨⟨z1l, z1⟩, z2l, z2⟩ := clrF_keep (c := 1) (fun x => x.length = vs.length + 2 ∧ at0 x 0 = 0) (fun a b x y hx hy => ⟨by rw [mix_len (hx.1.trans hy.1.symm)]; exact hx.1, by rw [at_mix (hx.1.trans hy.1.symm), hx.2, hy.2]; omega⟩) ⟨ls, h.s0⟩ ⟨lR, a20⟩
  have w2 := clrF_zero (c := 1) l2
  have s1n := clrF_nonneg (r := s) (o := R) (c := 1)
  obtain ⟨⟨p3, q3, e3⟩, p4, q4, e4⟩ := clrF_from (c := 1) l2
  have m1 := (ba1.1 1 rfl).1
  have m2 := (ba1.1 1 rfl).2
  rw [← mB_succ] at m1 m2
  have bb := clrF_bd (J := fun _ => True) (c := 1) (E := eB V k * (V + 3) * (V + 1)) (D := mB V (k + 1)) l2 (fun j _ => Nat.le_trans (h.es j) (le_mul3 _ _ _)) (fun j _ => (ba.1 j trivial).2) (Nat.le_trans h.bs (mB_le V k)) m2
  generalize (clrF s R 1).1 = B at *
  generalize (clrF s R 1).2 = T at *
  have lB := cb1.len
  have l3 : A.length = B.length := lA.trans lB.symm
  have Eb1 : eB V k * (V + 3) * (V + 1) ≤ eB V k * (V + 3) * (V + 1) * (mB V (k + 1) + 3) * (mB V (k + 1) + 1) := le_mul3 _ _ _
  have Ebs : ∀ j, (at0 B j).natAbs ≤ eB V (k + 1) := fun j => by
    rw [eB_succ]
    exact Nat.le_trans (bb.1 j trivial).1 (Nat.le_mul_of_pos_right _ (by omega))
  -- the last step
  have last : ∃ Q : Int, ∃ f' : List Int, (if at0 B 1 ≠ 0 then mixF 1 A (-((at0 A 1).fdiv (at0 B 1))) B else A) = f' ∧ Cons vs f' ∧ (∀ j, at0 f' j = at0 A j - Q * at0 B j) ∧ (at0 f' 1).natAbs ≤ mB V (k + 1) ∧ (at0 A 1 = 0 → at0 f' 1 = 0) ∧ Q.natAbs ≤ mB V (k + 1) + 1 := by
    by_cases hb : at0 B 1 = 0
    · rw [if_neg (by simpa using hb)]
      exact ⟨0, A, rfl, ca1, fun j => by omega, m1, fun z => z, Nat.zero_le _⟩
    · rw [if_pos hb]
      have fs := step_at (c := 1) l3 hb
      have fb := fmod_bd (r := at0 A 1) hb
      refine ⟨(at0 A 1).fdiv (at0 B 1), _, rfl, ca1.mix cb1, fun j => ?_, ?_, fun z => ?_, ?_⟩
      · rw [at_mix l3]
        grind
      · rw [fs]
        have := bb.2
        omega
      · rw [fs, z]
        simp
      · have := fdiv_le (r := at0 A 1) hb
        omega
  obtain ⟨Q, f', hf', cf', ef', bf', fz', bQ⟩ := last
  rw [hf']
  have f0 : at0 f' 0 = at0 A 0 := by
    rw [ef' 0, z1]
    omega
  refine ⟨cf', cb1, z1, by rw [f0]; exact a10, s1n, fun z => ?_, fun i w hi hw => ?_, by rw [f0]; exact ba.2, bf', bb.2, fun j => ?_, Ebs⟩
  · rw [f0] at z
    have g1 := e1 0
    have g2 := e2 0
    rw [z, a20] at g1 g2
    have v0 : v.1 = 0 := by
      rw [r0] at g2
      omega
    have fz0 : at0 f 0 = 0 := by omega
    refine fz' ?_
    rw [nop v0 fz0]
    exact h.fz fz0
  · have g30 := e3 0
    have g31 := e3 1
    have g40 := e4 0
    have g41 := e4 1
    rw [z2] at g30 g40
    rw [w2] at g31 g41
    have k0 := ef' 0
    have k1 := ef' 1
    rcases Nat.lt_or_ge i k with hik | hik
    · obtain ⟨α, β, g1, g2⟩ := h.gen i w hik hw
      dsimp only at g1 g2
      have x0 := e1 0
      have x1 := e1 1
      refine ⟨α * p1, α * (p1 * Q + q1 * p4) + β * p3, ?_, ?_⟩
      · dsimp only
        rw [g1, x0, g40, g30, k0]
        grind
      · dsimp only
        rw [g2, x1, g41, g31, k1]
        grind
    · have : i = k := by omega
      subst this
      rw [hv] at hw
      cases hw
      have x0 := e2 0
      have x1 := e2 1
      rw [r0] at x0
      rw [r1] at x1
      refine ⟨p2, p2 * Q + q2 * p4, ?_, ?_⟩
      · dsimp only
        rw [x0, g40, k0]
        grind
      · dsimp only
        rw [x1, g41, k1]
        grind
  · have g := ef' j
    have g1 := (ba.1 j trivial).1
    have g2 := (bb.1 j trivial).1
    dsimp only
    have g3 : (at0 f' j).natAbs ≤ (at0 A j).natAbs + Q.natAbs * (at0 B j).natAbs := by
      rw [g, ← Int.natAbs_mul]
      omega
    have g4 := Nat.mul_le_mul bQ g2
    rw [eB_succ]
    generalize eB V k * (V + 3) * (V + 1) = X at *
    generalize X * (mB V (k + 1) + 3) * (mB V (k + 1) + 1) = Y at *
    have : Y * (mB V (k + 1) + 3) = (mB V (k + 1) + 1) * Y + Y + Y := by grind
    omega
theorem basFrom_inv {vs : List (Int × Int)} {V : Nat} (hV : 1 ≤ V) (hb : ∀ v ∈ vs, v.1.natAbs ≤ V ∧ v.2.natAbs ≤ V) : ∀ (ws : List (Int × Int)) (k : Nat) (p : List Int × List Int), vs.drop k = ws → k ≤ vs.length → BInv vs V k p → BInv vs V vs.length (basFrom vs.length ws k p)
  | [], k, p, e, hk, h => by
    have : vs.length ≤ k := by simpa using e
    have e2 : k = vs.length := by omega
    subst e2
    exact h
  | w :: ws, k, p, e, hk, h => by
    have hk2 : vs[k]? = some w := by
      have q : (vs.drop k)[0]? = some w := by rw [e]; rfl
      rw [List.getElem?_drop] at q
      simpa using q
    have hlt := (List.getElem?_eq_some_iff.mp hk2).1
    have hm := List.mem_of_getElem? hk2
    refine basFrom_inv hV hb ws (k + 1) _ ?_ hlt (h.next hk2 hV (hb w hm).1 (hb w hm).2)
    rw [← List.drop_drop, e]
    rfl
theorem bas_inv {vs : List (Int × Int)} {V : Nat} (hV : 1 ≤ V) (hb : ∀ v ∈ vs, v.1.natAbs ≤ V ∧ v.2.natAbs ≤ V) : BInv vs V vs.length (basF vs) :=
  basFrom_inv hV hb vs 0 _ rfl (Nat.zero_le _) BInv.start
end Wk
namespace Wk
def Mem (vs : List (Int × Int)) (t : Int × Int) : Prop := ∃ cs : List Int, cs.length = vs.length ∧ dotP cs vs = t
def crsP (v w : Int × Int) : Int := v.1 * w.2 - v.2 * w.1
theorem dot_crs {d : Int} : ∀ {cs : List Int} {vs : List (Int × Int)} {w : Int × Int}, (∀ v ∈ vs, d ∣ crsP v w) → d ∣ crsP (dotP cs vs) w
  | [], vs, w, _ => by
    show d ∣ (0 : Int) * w.2 - 0 * w.1
    simp
  | c :: cs, [], w, _ => by
    show d ∣ (0 : Int) * w.2 - 0 * w.1
    simp
  | c :: cs, v :: vs, w, h => by
    have ih := dot_crs (cs := cs) (vs := vs) (w := w) fun x hx => h x (List.mem_cons_of_mem _ hx)
    have h1 := h v List.mem_cons_self
    have e : crsP (dotP (c :: cs) (v :: vs)) w = c * crsP v w + crsP (dotP cs vs) w := by
      show (c * v.1 + (dotP cs vs).1) * w.2 - (c * v.2 + (dotP cs vs).2) * w.1 = c * (v.1 * w.2 - v.2 * w.1) + ((dotP cs vs).1 * w.2 - (dotP cs vs).2 * w.1)
      grind
    rw [e]
    exact Int.dvd_add (Int.dvd_mul_of_dvd_right h1) ih
theorem crs_swap {d : Int} {v w : Int × Int} (h : d ∣ crsP v w) : d ∣ crsP w v := by
  have e : crsP w v = -crsP v w := by
    show w.1 * v.2 - w.2 * v.1 = -(v.1 * w.2 - v.2 * w.1)
    grind
  rw [e]
  exact Int.dvd_neg.mpr h
theorem dot_dvd {d : Int} : ∀ {cs : List Int} {vs : List (Int × Int)}, (∀ v ∈ vs, d ∣ v.1 ∧ d ∣ v.2) → d ∣ (dotP cs vs).1 ∧ d ∣ (dotP cs vs).2
  | [], vs, _ => ⟨Int.dvd_zero d, Int.dvd_zero d⟩
  | c :: cs, [], _ => ⟨Int.dvd_zero d, Int.dvd_zero d⟩
  | c :: cs, v :: vs, h => by
    have ih := dot_dvd (cs := cs) (vs := vs) fun x hx => h x (List.mem_cons_of_mem _ hx)
    have h1 := h v List.mem_cons_self
    exact ⟨Int.dvd_add (Int.dvd_mul_of_dvd_right h1.1) ih.1, Int.dvd_add (Int.dvd_mul_of_dvd_right h1.2) ih.2⟩
/-- a common divisor of all coordinates | of all cross products, the greatest one -/
structure CntV (vs : List (Int × Int)) (c : Nat) : Prop where
  dv : ∀ v ∈ vs, (c : Int) ∣ v.1 ∧ (c : Int) ∣ v.2
  gr : ∀ d : Nat, (∀ v ∈ vs, (d : Int) ∣ v.1 ∧ (d : Int) ∣ v.2) → d ∣ c
structure AreV (vs : List (Int × Int)) (a : Nat) : Prop where
  dv : ∀ v ∈ vs, ∀ w ∈ vs, (a : Int) ∣ crsP v w
  gr : ∀ d : Nat, (∀ v ∈ vs, ∀ w ∈ vs, (d : Int) ∣ crsP v w) → d ∣ a
theorem AreV.mem {vs : List (Int × Int)} {a : Nat} (h : AreV vs a) {t u : Int × Int} (ht : Mem vs t) (hu : Mem vs u) : (a : Int) ∣ crsP t u := by
  obtain ⟨cs, _, rfl⟩ := ht
  obtain ⟨ds, _, rfl⟩ := hu
  refine dot_crs fun v hv => crs_swap (dot_crs fun w hw => h.dv w hw v hv)
theorem CntV.mem {vs : List (Int × Int)} {c : Nat} (h : CntV vs c) {t : Int × Int} (ht : Mem vs t) : (c : Int) ∣ t.1 ∧ (c : Int) ∣ t.2 := by
  obtain ⟨cs, _, rfl⟩ := ht
  exact dot_dvd h.dv
theorem dotP_replicate_set : ∀ (vs : List (Int × Int)) (i : Nat) (v : Int × Int), vs[i]? = some v → Mem vs v := fun vs i v h => by
  obtain ⟨x, y, cs, e, h1, h2⟩ := (cons_unit h).ex
  injection e with e1 e
  injection e with e2 e
  exact ⟨cs, h1, by rw [h2, ← e1, ← e2]⟩
theorem mem_of {vs : List (Int × Int)} {v : Int × Int} (h : v ∈ vs) : Mem vs v := by
  obtain ⟨i, hi⟩ := List.getElem?_of_mem h
  exact dotP_replicate_set vs i v hi
/-- a basis of two rows -/
structure Bas (vs : List (Int × Int)) (a b h : Int) : Prop where
  a0 : 0 ≤ a
  h0 : 0 ≤ h
  fz : a = 0 → b = 0
  mf : Mem vs (a, b)
  ms : Mem vs (0, h)
  gen : ∀ v ∈ vs, ∃ p q : Int, v.1 = p * a ∧ v.2 = p * b + q * h
theorem mem_lin {vs : List (Int × Int)} {t u : Int × Int} (p q : Int) (ht : Mem vs t) (hu : Mem vs u) : Mem vs (p * t.1 + q * u.1, p * t.2 + q * u.2) := by
  obtain ⟨cs, h1, rfl⟩ := ht
  obtain ⟨ds, h2, rfl⟩ := hu
  exact ⟨mixF p cs q ds, by rw [mix_len (h1.trans h2.symm), h1], dot_mix h1 h2⟩
theorem Bas.mem {vs : List (Int × Int)} {a b h : Int} (B : Bas vs a b h) {t : Int × Int} : Mem vs t ↔ ∃ p q : Int, t.1 = p * a ∧ t.2 = p * b + q * h := by
  constructor
  · rintro ⟨cs, _, rfl⟩
    have key : ∀ (cs : List Int) (ws : List (Int × Int)), (∀ v ∈ ws, v ∈ vs) → ∃ p q : Int, (dotP cs ws).1 = p * a ∧ (dotP cs ws).2 = p * b + q * h := by
      intro cs
      induction cs with
      | nil => exact fun ws _ => ⟨0, 0, by show (0 : Int) = 0 * a; omega, by show (0 : Int) = 0 * b + 0 * h; omega⟩
      | cons c cs ih =>
        intro ws hw
        cases ws with
        | nil => exact ⟨0, 0, by show (0 : Int) = 0 * a; omega, by show (0 : Int) = 0 * b + 0 * h; omega⟩
        | cons w ws =>
          obtain ⟨p, q, e1, e2⟩ := ih ws fun v hv => hw v (List.mem_cons_of_mem _ hv)
          obtain ⟨p2, q2, e3, e4⟩ := B.gen w (hw w List.mem_cons_self)
          refine ⟨c * p2 + p, c * q2 + q, ?_, ?_⟩
          · show c * w.1 + (dotP cs ws).1 = _
            rw [e1, e3]
            grind
          · show c * w.2 + (dotP cs ws).2 = _
            rw [e2, e4]
            grind
    exact key cs vs fun v hv => hv
  · rintro ⟨p, q, e1, e2⟩
    have m := mem_lin p q B.mf B.ms
    have e : t = (p * a + q * 0, p * b + q * h) := Prod.ext (by rw [e1]; simp) e2
    rw [e]
    exact m
theorem Bas.area {vs : List (Int × Int)} {a b h : Int} (B : Bas vs a b h) {n : Nat} (A : AreV vs n) : n = (a * h).natAbs := by
  refine Nat.dvd_antisymm ?_ (A.gr _ fun v hv w hw => ?_)
  · have q := A.mem B.mf B.ms
    have e : crsP (a, b) (0, h) = a * h := by
      show a * h - b * 0 = _
      simp
    rw [e] at q
    exact Int.ofNat_dvd_left.mp q
  · obtain ⟨p, q, e1, e2⟩ := B.gen v hv
    obtain ⟨p2, q2, e3, e4⟩ := B.gen w hw
    have e : crsP v w = a * h * (p * q2 - q * p2) := by
      show v.1 * w.2 - v.2 * w.1 = _
      rw [e1, e2, e3, e4]
      grind
    rw [e]
    exact Int.natAbs_dvd.mpr (Int.dvd_mul_right _ _)
theorem Bas.content {vs : List (Int × Int)} {a b h : Int} (B : Bas vs a b h) {n : Nat} (A : CntV vs n) : (n : Int) ∣ a ∧ (n : Int) ∣ b ∧ (n : Int) ∣ h ∧ ∀ d : Nat, (d : Int) ∣ a → (d : Int) ∣ b → (d : Int) ∣ h → d ∣ n := by
  refine ⟨(A.mem B.mf).1, (A.mem B.mf).2, (A.mem B.ms).2, fun d h1 h2 h3 => A.gr d fun v hv => ?_⟩
  obtain ⟨p, q, e1, e2⟩ := B.gen v hv
  rw [e1, e2]
  exact ⟨Int.dvd_mul_of_dvd_right h1, Int.dvd_add (Int.dvd_mul_of_dvd_right h2) (Int.dvd_mul_of_dvd_right h3)⟩
theorem mem_app {vs : List (Int × Int)} {t u : Int × Int} (h : Mem vs t) : Mem (vs ++ [u]) t := by
  obtain ⟨cs, h1, h2⟩ := h
  refine ⟨cs ++ [0], by rw [List.length_append, List.length_append, h1] <;> rfl, ?_⟩
  rw [← h2]
  have key : ∀ (cs : List Int) (vs : List (Int × Int)), cs.length = vs.length → dotP (cs ++ [0]) (vs ++ [u]) = dotP cs vs := by
    intro cs
    induction cs with
    | nil =>
      intro vs hl
      cases vs with
      | nil =>
        show ((0 : Int) * u.1 + 0, (0 : Int) * u.2 + 0) = (0, 0)
        simp
      | cons v vs => cases hl
    | cons c cs ih =>
      intro vs hl
      cases vs with
      | nil => cases hl
      | cons v vs =>
        show (c * v.1 + (dotP (cs ++ [0]) (vs ++ [u])).1, c * v.2 + (dotP (cs ++ [0]) (vs ++ [u])).2) = _
        rw [ih vs (by simpa using hl)]
        rfl
  exact key cs vs h1
/-- the common divisors tell -/
theorem mem_iff {vs : List (Int × Int)} {t : Int × Int} {a b h a2 b2 h2 : Int} {c n c2 n2 : Nat} (B : Bas vs a b h) (B2 : Bas (vs ++ [t]) a2 b2 h2) (C : CntV vs c) (A : AreV vs n) (C2 : CntV (vs ++ [t]) c2) (A2 : AreV (vs ++ [t]) n2) :
    Mem vs t ↔ (n2 = n ∧ (0 < n ∨ c2 = c)) := by
  constructor
  · intro m
    have all : ∀ v ∈ vs ++ [t], Mem vs v := fun v hv => by
      rcases List.mem_append.mp hv with hv | hv
      · exact mem_of hv
      · rw [List.mem_singleton.mp hv]
        exact m
    refine ⟨Nat.dvd_antisymm (A.gr n2 fun v hv w hw => A2.dv v (List.mem_append_left _ hv) w (List.mem_append_left _ hw)) (A2.gr n fun v hv w hw => A.mem (all v hv) (all w hw)), .inr ?_⟩
    exact Nat.dvd_antisymm (C.gr c2 fun v hv => C2.dv v (List.mem_append_left _ hv)) (C2.gr c fun v hv => C.mem (all v hv))
  · rintro ⟨e, k⟩
    have ea := B.area A
    have ea2 := B2.area A2
    have mt : Mem (vs ++ [t]) t := mem_of (List.mem_append_right _ List.mem_cons_self)
    obtain ⟨p, q, e1, e2⟩ := B2.mem.mp (mem_app (u := t) B.mf)
    obtain ⟨p3, q3, e3, e4⟩ := B2.mem.mp (mem_app (u := t) B.ms)
    obtain ⟨x, y, e5, e6⟩ := B2.mem.mp mt
    dsimp only at e1 e2 e3 e4
    have cc := B.content C
    have cc2 := B2.content C2
    by_cases hn : n = 0
    · -- rank one, or none
      have k2 : c2 = c := by
        rcases k with k | k
        · omega
        · exact k
      have z1 : a * h = 0 := by omega
      have z2 : a2 * h2 = 0 := by omega
      by_cases ha : a = 0
      · have hb := B.fz ha
        have hh : c = h.natAbs := Nat.dvd_antisymm (Int.ofNat_dvd_left.mp cc.2.2.1) (cc.2.2.2 _ (by rw [ha]; exact Int.dvd_zero _) (by rw [hb]; exact Int.dvd_zero _) (Int.natAbs_dvd.mpr (Int.dvd_refl _)))
        by_cases ha2 : a2 = 0
        · have hb2 := B2.fz ha2
          have hh2 : c2 = h2.natAbs := Nat.dvd_antisymm (Int.ofNat_dvd_left.mp cc2.2.2.1) (cc2.2.2.2 _ (by rw [ha2]; exact Int.dvd_zero _) (by rw [hb2]; exact Int.dvd_zero _) (Int.natAbs_dvd.mpr (Int.dvd_refl _)))
          have h1 := B.h0
          have h3 := B2.h0
          have e9 : h2 = h := by omega
          refine B.mem.mpr ⟨0, y, ?_, ?_⟩
          · rw [e5, ha2]
            simp
          · rw [e6, hb2, e9]
            simp
        · have hz : h2 = 0 := by
            rcases Int.mul_eq_zero.mp z2 with z | z
            · exact absurd z ha2
            · exact z
          have p0 : p3 = 0 := by
            rcases Int.mul_eq_zero.mp e3.symm with z | z
            · exact z
            · exact absurd z ha2
          have h00 : h = 0 := by rw [e4, p0, hz]; simp
          have c0 : c2 = 0 := by rw [k2, hh, h00] <;> rfl
          have q1 := cc2.1
          rw [c0] at q1
          exact absurd (Int.zero_dvd.mp q1) ha2
      · have hz : h = 0 := by
          rcases Int.mul_eq_zero.mp z1 with z | z
          · exact absurd z ha
          · exact z
        have ha2 : a2 ≠ 0 := fun z => ha (by rw [e1, z]; simp)
        have hz2 : h2 = 0 := by
          rcases Int.mul_eq_zero.mp z2 with z | z
          · exact absurd z ha2
          · exact z
        -- c2 * p divides a and b
        have d1 : ((c2 * p.natAbs : Nat) : Int) ∣ a := by
          rw [e1, Int.natCast_mul, Int.mul_comm]
          exact Int.mul_dvd_mul (Int.natAbs_dvd.mpr (Int.dvd_refl _)) cc2.1
        have d2 : ((c2 * p.natAbs : Nat) : Int) ∣ b := by
          rw [e2, hz2, Int.mul_zero, Int.add_zero, Int.natCast_mul, Int.mul_comm]
          exact Int.mul_dvd_mul (Int.natAbs_dvd.mpr (Int.dvd_refl _)) cc2.2.1
        have d3 := cc.2.2.2 _ d1 d2 (by rw [hz]; exact Int.dvd_zero _)
        have cp : 0 < c := Nat.pos_of_ne_zero fun z => by
          have q1 := cc.1
          rw [z] at q1
          exact ha (Int.zero_dvd.mp q1)
        rw [k2] at d3
        have p1 : p.natAbs = 1 := by
          have q1 : c * p.natAbs ∣ c * 1 := by rw [Nat.mul_one]; exact d3
          exact Nat.dvd_one.mp (Nat.dvd_of_mul_dvd_mul_left cp q1)
        refine B.mem.mpr ⟨x * p, 0, ?_, ?_⟩
        · have pp : p * p = 1 := by
            rcases Int.natAbs_eq p with z | z <;> rw [z, p1] <;> rfl
          rw [e5, e1]
          have : x * p * (p * a2) = x * a2 * (p * p) := by grind
          rw [this, pp]
          simp
        · have pp : p * p = 1 := by
            rcases Int.natAbs_eq p with z | z <;> rw [z, p1] <;> rfl
          rw [e6, e2, hz2, hz]
          have : x * p * (p * b2 + q * 0) + 0 * 0 = x * b2 * (p * p) := by grind
          rw [this, pp]
          simp
    · have eq : a * h = a2 * h2 := by
        have z1 := Int.mul_nonneg B.a0 B.h0
        have z2 := Int.mul_nonneg B2.a0 B2.h0
        omega
      have nz : a2 * h2 ≠ 0 := fun z => by
        rw [z] at ea2
        exact hn (by omega)
      have ha2 : a2 ≠ 0 := fun z => nz (by rw [z]; simp)
      have hh2 : h2 ≠ 0 := fun z => nz (by rw [z]; simp)
      have p0 : p3 = 0 := by
        rcases Int.mul_eq_zero.mp e3.symm with z | z
        · exact z
        · exact absurd z ha2
      rw [p0] at e4
      have e4' : h = q3 * h2 := by rw [e4]; simp
      have pq : p * q3 = 1 := by
        have : (p * q3) * (a2 * h2) = 1 * (a2 * h2) := by
          rw [Int.one_mul, ← eq, e1, e4']
          grind
        exact Int.eq_of_mul_eq_mul_right nz this
      have pos1 : 0 < a2 := by
        have := B2.a0
        omega
      have pp : p = 1 := by
        have pn := congrArg Int.natAbs pq
        rw [Int.natAbs_mul] at pn
        have p1 : p.natAbs = 1 := Nat.dvd_one.mp ⟨q3.natAbs, pn.symm⟩
        rcases Int.natAbs_eq p with z | z <;> rw [p1] at z
        · exact z
        · have := B.a0
          rw [e1, z] at this
          omega
      have q1 : q3 = 1 := by rw [pp] at pq; omega
      rw [pp] at e1 e2
      rw [q1] at e4'
      refine B.mem.mpr ⟨x, y - x * q, ?_, ?_⟩
      · rw [e5, e1]
        grind
      · rw [e6, e2, e4']
        grind
theorem BInv.bas {vs : List (Int × Int)} {V : Nat} {p : List Int × List Int} (h : BInv vs V vs.length p) : Bas vs (at0 p.1 0) (at0 p.1 1) (at0 p.2 1) where
  a0 := h.f0
  h0 := h.s1
  fz := h.fz
  mf := by
    obtain ⟨x, y, cs, e, h1, h2⟩ := h.cf.ex
    rw [e]
    exact ⟨cs, h1, h2⟩
  ms := by
    obtain ⟨x, y, cs, e, h1, h2⟩ := h.cs.ex
    have s0 := h.s0
    rw [e] at s0 ⊢
    have : x = 0 := s0
    subst this
    exact ⟨cs, h1, h2⟩
  gen := fun v hv => by
    obtain ⟨i, hi⟩ := List.getElem?_of_mem hv
    obtain ⟨a, b, e1, e2⟩ := h.gen i v (List.getElem?_eq_some_iff.mp hi).1 hi
    refine ⟨a, b, ?_, e2⟩
    rw [e1, h.s0]
    simp
end Wk
namespace Wk
/-- what is added at one place -/
def addAt (r : List Int) (k : Nat) (d : Int) : List Int := r.set k (at0 r k + d)
theorem addAt_len (r : List Int) (k : Nat) (d : Int) : (addAt r k d).length = r.length := List.length_set
theorem at_add {r : List Int} {k : Nat} {d : Int} (h : k < r.length) (j : Nat) : at0 (addAt r k d) j = if j = k then at0 r k + d else at0 r j := by
  unfold addAt
  show (r.set k _).getD j 0 = _
  rw [List.getD_eq_getElem?_getD, List.getElem?_set]
  by_cases e : k = j
  · subst e
    rw [if_pos rfl, if_pos h, if_pos rfl]
    rfl
  · rw [if_neg e, if_neg (fun z => e z.symm)]
    unfold at0
    rw [List.getD_eq_getElem?_getD]
def smStep (i j : Nat) (f s : Int × Int) (r : List Int) (k : Nat) (v : Int × Int) : List Int :=
  let x := (at0 r k).fdiv (crsP f s)
  addAt (addAt (addAt r k (-(x * crsP f s))) i (x * crsP v s)) j (x * crsP f v)
end Wk
namespace Wk
open PySem PySem.Spec PyProof.Rows L2 Evl
/-- (*a, *b) -/
def tTupSS (K : PySem.W.Frag) (ta tb : TE) : TE := fun σ H Q => ta σ H fun y H1 => ∃ p xs, y = V.ref p ∧ (SqT K H1 p xs ∨ SqL K H1 p xs) ∧ tb σ H1 fun z H2 => ∃ q ys, z = V.ref q ∧ (SqT K H2 q ys ∨ SqL K H2 q ys) ∧ (xs ++ ys).length ≤ sizeLine ∧ ∀ t, H2 t = none → Q (.ref t) (upd H2 t (.tup (xs ++ ys)))
section
variable {X : Cx} {a b : Expr} {ta tb : TE} {p1 p2 pos : Pos}
theorem pe_tupSS {x1} (ha : PE X a ta) (hb : PE X b tb) (h1 : starEach [.Starred a p1, .Starred b p2] X.env = (true, eval a X.env) :: starEach [.Starred b p2] X.env := by rfl) (h2 : starEach [.Starred b p2] X.env = (true, eval b X.env) :: starEach [] X.env := by rfl) :
    PE X (.Tuple [.Starred a p1, .Starred b p2] x1 pos) (tTupSS X.K ta tb) := by
  refine ⟨fun pins s σ H Q I hq => ?_⟩
  refine wpAny_Tuple_spliced (PySem.W.items_star (thn (ha.run pins s σ H _ I hq) fun v s1 ⟨y, H1, I1, ry, p, xs, ey, hxs, q1⟩ => ?_) h1)
  subst ey
  obtain rfl : v = Value.ref p := ry
  refine StX.star_any I1 hxs fun us s2 I2 rv => ?_
  refine PySem.W.items_star (thn (hb.run pins s2 σ H1 _ I2 q1) fun v s3 ⟨z, H2, I3, rz, q, ys, ez, hys, hl, q2⟩ => ?_) h2
  subst ez
  obtain rfl : v = Value.ref q := rz
  refine StX.star_any I3 hys fun us2 s4 I4 rv2 => Calls.spliced_nil ?_
  have r : Vals (xs ++ ys) (us ++ (us2 ++ [])) := by
    rw [List.append_nil]
    exact rv.append rv2
  refine ⟨by rw [← r.length]; exact hl, ?_⟩
  have hf : H2 s4.heap.objs.size = none := I4.hok.fresh (Nat.le_refl _)
  refine ⟨.ref s4.heap.objs.size, upd H2 s4.heap.objs.size (.tup (xs ++ ys)), I4.laid (t' := s4.toks) (fun b u e => Heap.get?_push_of_some _ e) (Nat.le_refl _) ?_, rfl, q2 _ hf⟩
  exact ⟨hl, _, r, ⟨_, Heap.get?_push_size _ rfl, rfl, _, rfl⟩⟩
def CDivN (_ j : Int) : Prop := j ≠ 0 ∧ j.natAbs.log2 < 9000
theorem op_fdivN : OpR X (binaryOp .FloorDiv) (rI CDivN fun i j => .int (i.fdiv j)) := opI fun i j _ _ _ _ _ hc q => floordiv_int hc.1 q (.inl (PyProof.noPylong_of_log2 hc.2))
end
theorem ex_tupSS {K : PySem.W.Frag} {ρ : Rho} {M : Mm} {Φ : Dt → Mm → Prop} {ta tb : TE} (h : EX K ta ρ M (fun x M1 => ∃ xs, (x = .tup xs ∨ x = .lst xs) ∧ EX K tb ρ M1 (fun y M2 => ∃ ys, (y = .tup ys ∨ y = .lst ys) ∧ (xs ++ ys).length ≤ sizeLine ∧ Φ (.tup (xs ++ ys)) M2))) : EX K (tTupSS K ta tb) ρ M Φ := fun B H H1 σ o s Q q =>
  h B H H1 σ o s _ fun v x M1 H2 H3 ⟨xs, hx, z⟩ k e rx => by
    have g1 : ∃ p vs, v = V.ref p ∧ (SqT K H3 p vs ∨ SqL K H3 p vs) ∧ RpAll K H2 vs xs := by
      rcases hx with rfl | rfl
      · obtain ⟨p, vs, rfl, h1, r1⟩ := rx.tup_inv
        exact ⟨p, vs, rfl, .inl (ex_t k.h h1), r1⟩
      · obtain ⟨p, vs, rfl, h1, r1⟩ := rx.lst_inv
        exact ⟨p, vs, rfl, .inr (sq_of (k.h _ _ h1)), r1⟩
    obtain ⟨p, vs, rfl, hs, r1⟩ := g1
    refine ⟨p, vs, rfl, hs, z B H2 H3 σ k (s.mono e) _ fun v2 y M2 H4 H5 ⟨ys, hy, hl, z2⟩ k2 e2 ry => ?_⟩
    have g2 : ∃ p vs, v2 = V.ref p ∧ (SqT K H5 p vs ∨ SqL K H5 p vs) ∧ RpAll K H4 vs ys := by
      rcases hy with rfl | rfl
      · obtain ⟨p, vs, rfl, h1, r1⟩ := ry.tup_inv
        exact ⟨p, vs, rfl, .inl (ex_t k2.h h1), r1⟩
      · obtain ⟨p, vs, rfl, h1, r1⟩ := ry.lst_inv
        exact ⟨p, vs, rfl, .inr (sq_of (k2.h _ _ h1)), r1⟩
    obtain ⟨p2, ws, rfl, hs2, r2⟩ := g2
    have e3 : ∀ t, H5 t = none → Ex H4 (upd H4 t (.tup (vs ++ ws))) := fun t ht => Ex.new (fresh_back k2.h ht)
    refine ⟨p2, ws, rfl, hs2, by rw [List.length_append, r1.length, r2.length, ← List.length_append]; exact hl, fun t ht => ?_⟩
    exact q _ _ _ _ _ z2 (k2.grow ht) ((e.trans e2).trans (e3 t ht)) (.tup (st_of upd_same) (((r1.mono e2).append r2).mono (e3 t ht)))
end Wk
namespace Wk
open PySem PySem.Spec PyProof.Rows L2 Evl
/-- all entries are small enough to be multiplied -/
def EB (r : List Int) : Prop := ∀ j, (at0 r j).natAbs < 2 ^ 200000
theorem EB.at {r : List Int} (h : EB r) {i : Nat} {x : Int} (hx : r[i]? = some x) : x.natAbs < 2 ^ 200000 := by
  have q := h i
  unfold at0 at q
  rw [List.getD_eq_getElem?_getD, hx] at q
  exact q
theorem cmul_e {i j : Int} (h1 : i.natAbs < 2 ^ 200000) (h2 : j.natAbs < 2 ^ 200000) : CMulW i j ∨ CMul i j := .inl (wide_mul h1 h2 (by decide) (by decide) (by decide))
theorem cdivn {i j : Int} {n : Nat} (h : j ≠ 0) (hb : j.natAbs < 2 ^ n) (h9 : n ≤ 9000) : CDivN i j := by
  refine ⟨h, ?_⟩
  have q := (Nat.log2_lt (by omega)).mpr hb
  omega
theorem at_some {r : List Int} {c : Nat} (h : c < r.length) : r[c]? = some (at0 r c) := by
  unfold at0
  rw [List.getD_eq_getElem?_getD, List.getElem?_eq_getElem h]
  rfl
abbrev twoD (p : List Int × List Int) : Dt := .tup [I1 p.1, I1 p.2]
abbrev Vtl (b : Bool) (vs : List Pt) : Dt := if b = true then .tup (vs.map P2) else .lst (vs.map P2)
section
variable (K : PySem.W.Frag)
abbrev spMixed : Sp := SpP K (fun (x : Int × List Int × Int × List Int) => [.int x.1, I1 x.2.1, .int x.2.2.1, I1 x.2.2.2]) (fun x => x.2.1.length = x.2.2.2.length ∧ x.2.1.length ≤ 50 ∧ x.1.natAbs < 2 ^ 200000 ∧ x.2.2.1.natAbs < 2 ^ 200000 ∧ EB x.2.1 ∧ EB x.2.2.2) (fun x => I1 (mixF x.1 x.2.1 x.2.2.1 x.2.2.2))
abbrev spCleared : Sp := SpP K (fun (x : List Int × List Int × Nat × Nat × Nat) => [I1 x.1, I1 x.2.1, .int (x.2.2.1 : Nat)]) (fun x => x.1.length = x.2.1.length ∧ x.1.length ≤ 50 ∧ x.2.2.1 < x.1.length ∧ (∀ j, (at0 x.1 j).natAbs ≤ x.2.2.2.1) ∧ (∀ j, (at0 x.2.1 j).natAbs ≤ x.2.2.2.1) ∧
  (at0 x.1 x.2.2.1).natAbs ≤ x.2.2.2.2 ∧ (at0 x.2.1 x.2.2.1).natAbs ≤ x.2.2.2.2 ∧ x.2.2.2.2 < 2 ^ 8000 ∧ x.2.2.2.1 * (x.2.2.2.2 + 3) * (x.2.2.2.2 + 1) < 2 ^ 200000) (fun x => twoD (clrF x.1 x.2.1 x.2.2.1))
end
end Wk
namespace Wk
theorem sm1 {x : Int} (h : x.natAbs ≤ 1) : x.natAbs < 2 ^ 200000 := Nat.lt_of_le_of_lt h (Nat.one_lt_two_pow (Nat.succ_ne_zero 199999))
theorem zip_len {α β : Type} (f : α → Dt) (g : β → Dt) {r : List α} {s : List β} (hl : r.length = s.length) : (zipD (r.map f) (s.map g)).length = r.length := by
  unfold zipD
  rw [List.length_map, List.length_range, List.length_map, List.length_map, hl, Nat.min_self]
theorem zip_get {α β : Type} {f : α → Dt} {g : β → Dt} {r : List α} {s : List β} (hl : r.length = s.length) {i : Nat} {d : Dt} (h : (zipD (r.map f) (s.map g))[i]? = some d) : ∃ x y, r[i]? = some x ∧ s[i]? = some y ∧ d = .tup [f x, g y] := by
  have hi : i < r.length := by
    have q := (List.getElem?_eq_some_iff.mp h).1
    rw [zip_len f g hl] at q
    exact q
  have hi2 : i < s.length := hl ▸ hi
  refine ⟨r[i], s[i], List.getElem?_eq_getElem hi, List.getElem?_eq_getElem hi2, ?_⟩
  unfold zipD at h
  rw [List.getElem?_map, List.getElem?_range (by rw [List.length_map, List.length_map, hl, Nat.min_self]; exact hi2)] at h
  have e := Option.some.inj h
  rw [← e]
  show Dt.tup [(r.map f).getD i Dt.non, (s.map g).getD i Dt.non] = _
  rw [List.getD_eq_getElem?_getD, List.getD_eq_getElem?_getD, List.getElem?_map, List.getElem?_map, List.getElem?_eq_getElem hi, List.getElem?_eq_getElem hi2]
  rfl
end Wk
namespace Wk
open PySem PySem.Spec PyProof.Rows L2 Evl
theorem mB_num {V k : Nat} (hV : V ≤ 2 ^ 50) (hk : k ≤ 8) : mB V k ≤ 2 ^ 900 := by
  have e : (V + 3) * (V + 1) ≤ 2 ^ 102 := by
    refine Nat.le_trans (Nat.mul_le_mul (show V + 3 ≤ 2 ^ 51 by omega) (show V + 1 ≤ 2 ^ 51 by omega)) ?_
    decide
  unfold mB
  have h1 : ((V + 3) * (V + 1)) ^ k ≤ (2 ^ 102) ^ 8 := Nat.le_trans (Nat.pow_le_pow_left e k) (Nat.pow_le_pow_right (by decide) hk)
  exact Nat.le_trans (Nat.mul_le_mul hV h1) (by decide +kernel)
theorem eB_num {V : Nat} (hV : V ≤ 2 ^ 50) : ∀ {k : Nat}, k ≤ 8 → eB V k ≤ 2 ^ (50 + 3000 * k)
  | 0, _ => hV
  | k + 1, hk => by
    have ih := eB_num hV (k := k) (by omega)
    have m := mB_num hV hk
    have e : (V + 3) * (V + 1) ≤ 2 ^ 102 := by
      refine Nat.le_trans (Nat.mul_le_mul (show V + 3 ≤ 2 ^ 51 by omega) (show V + 1 ≤ 2 ^ 51 by omega)) ?_
      decide
    have p9 : (2 : Nat) ^ 901 = 2 ^ 900 * 2 := Nat.pow_succ ..
    have p3 : 3 ≤ 2 ^ 900 := Nat.le_trans (show 3 ≤ 2 ^ 2 by decide) (Nat.pow_le_pow_right (by decide) (by decide))
    have m3 : mB V (k + 1) + 3 ≤ 2 ^ 901 := by rw [p9]; generalize (2 : Nat) ^ 900 = P at *; omega
    have m1 : mB V (k + 1) + 1 ≤ 2 ^ 901 := by rw [p9]; generalize (2 : Nat) ^ 900 = P at *; omega
    show eB V k * ((V + 3) * (V + 1)) * ((mB V (k + 1) + 3) * (mB V (k + 1) + 1)) * (mB V (k + 1) + 3) ≤ _
    refine Nat.le_trans (Nat.mul_le_mul (Nat.mul_le_mul (Nat.mul_le_mul ih e) (Nat.mul_le_mul m3 m1)) m3) ?_
    rw [← Nat.pow_add, ← Nat.pow_add, ← Nat.pow_add, ← Nat.pow_add]
    exact Nat.pow_le_pow_right (by decide) (by omega)
/-- what a turn of the basis asks of sizes -/
theorem bas_num {V k : Nat} (hV : V ≤ 2 ^ 50) (hk : k + 1 ≤ 8) : V < 2 ^ 8000 ∧ mB V (k + 1) < 2 ^ 8000 ∧ eB V k * (V + 3) * (V + 1) < 2 ^ 200000 ∧ eB V k * (V + 3) * (V + 1) * (mB V (k + 1) + 3) * (mB V (k + 1) + 1) < 2 ^ 200000 ∧ eB V (k + 1) < 2 ^ 200000 ∧ mB V (k + 1) + 1 < 2 ^ 200000 := by
  have l : ∀ {a b : Nat}, a < b → (2 : Nat) ^ a < 2 ^ b := fun h => Nat.pow_lt_pow_right (by decide) h
  have e1 := Nat.lt_of_le_of_lt (eB_num hV hk) (l (show 50 + 3000 * (k + 1) < 200000 by omega))
  have m := mB_num hV hk
  have s := eB_succ V k
  have x1 : eB V k * (V + 3) * (V + 1) * (mB V (k + 1) + 3) * (mB V (k + 1) + 1) ≤ eB V (k + 1) := by
    rw [s]
    exact Nat.le_mul_of_pos_right _ (by omega)
  have x2 : eB V k * (V + 3) * (V + 1) ≤ eB V k * (V + 3) * (V + 1) * (mB V (k + 1) + 3) * (mB V (k + 1) + 1) := le_mul3 _ _ _
  have x3 : mB V (k + 1) + 1 ≤ 2 ^ 901 := by
    rw [show (2 : Nat) ^ 901 = 2 ^ 900 * 2 from Nat.pow_succ ..]
    have := Nat.one_le_two_pow (n := 900)
    generalize (2 : Nat) ^ 900 = P at *
    omega
  exact ⟨Nat.lt_of_le_of_lt hV (l (by decide)), Nat.lt_of_le_of_lt m (l (by decide)), Nat.lt_of_le_of_lt (Nat.le_trans x2 x1) e1, Nat.lt_of_le_of_lt x1 e1, e1, Nat.lt_of_le_of_lt x3 (l (by decide))⟩
theorem zero_flat (n : Nat) : (List.replicate (n + 2) [Dt.int 0]).flatten = (zeroF n).map Dt.int := by
  unfold zeroF
  rw [List.map_replicate]
  induction (n + 2) with
  | zero => rfl
  | succ k ih =>
    rw [List.replicate_succ, List.flatten_cons, ih, List.replicate_succ]
    rfl
section
variable (K : PySem.W.Frag)
abbrev spBasis : Sp := SpP K (fun (x : Bool × List Pt × Nat) => [Vtl x.1 x.2.1]) (fun x => x.2.1.length ≤ 8 ∧ 1 ≤ x.2.2 ∧ x.2.2 ≤ 2 ^ 50 ∧ ∀ v ∈ x.2.1, v.1.natAbs ≤ x.2.2 ∧ v.2.natAbs ≤ x.2.2) (fun x => twoD (basF x.2.1))
end
end Wk
namespace Wk
open PySem PySem.Spec PyProof.Rows L2 Evl
abbrev SmP (V : Nat) (v : Pt) : Prop := v.1.natAbs ≤ V ∧ v.2.natAbs ≤ V
end Wk
namespace Wk
open PySem PySem.Spec PyProof.Rows L2 Evl
theorem add_bd {r : List Int} {k : Nat} {d : Int} (h : k < r.length) (j : Nat) : (at0 (addAt r k d) j).natAbs ≤ (at0 r j).natAbs + d.natAbs := by
  rw [at_add h]
  split
  · rename_i e
    rw [e]
    omega
  · omega
theorem smStep_bd {i j k : Nat} {f s v : Pt} {r : List Int} {R A : Nat} (hi : i < r.length) (hj : j < r.length) (hk : k < r.length) (h0 : crsP f s ≠ 0) (hR : ∀ c, (at0 r c).natAbs ≤ R) (h1 : (crsP f s).natAbs ≤ A) (h2 : (crsP v s).natAbs ≤ A) (h3 : (crsP f v).natAbs ≤ A) (c : Nat) :
    (at0 (smStep i j f s r k v) c).natAbs ≤ R + (R + 1) * A + (R + 1) * A + (R + 1) * A := by
  have q := fdiv_le (r := at0 r k) h0
  have hq : ((at0 r k).fdiv (crsP f s)).natAbs ≤ R + 1 := Nat.le_trans q (Nat.succ_le_succ (hR k))
  unfold smStep
  dsimp only
  generalize (at0 r k).fdiv (crsP f s) = x at *
  have m1 : (-(x * crsP f s)).natAbs ≤ (R + 1) * A := by
    rw [Int.natAbs_neg, Int.natAbs_mul]
    exact Nat.mul_le_mul hq h1
  have m2 : (x * crsP v s).natAbs ≤ (R + 1) * A := by
    rw [Int.natAbs_mul]
    exact Nat.mul_le_mul hq h2
  have m3 : (x * crsP f v).natAbs ≤ (R + 1) * A := by
    rw [Int.natAbs_mul]
    exact Nat.mul_le_mul hq h3
  have a1 := add_bd (r := r) (d := -(x * crsP f s)) hk c
  have a2 := add_bd (r := addAt r k (-(x * crsP f s))) (d := x * crsP v s) (k := i) (by rw [addAt_len]; exact hi) c
  have a3 := add_bd (r := addAt (addAt r k (-(x * crsP f s))) i (x * crsP v s)) (d := x * crsP f v) (k := j) (by rw [addAt_len, addAt_len]; exact hj) c
  have b := hR c
  omega
/-- sizes, turn by turn -/
def rB (k : Nat) : Nat := 2 ^ (100000 + 124 * k)
theorem rB_step {k R : Nat} (h : R + 1 ≤ rB k) : R + (R + 1) * 2 ^ 121 + (R + 1) * 2 ^ 121 + (R + 1) * 2 ^ 121 + 1 ≤ rB (k + 1) := by
  have e : R + (R + 1) * 2 ^ 121 + (R + 1) * 2 ^ 121 + (R + 1) * 2 ^ 121 + 1 = (R + 1) * (1 + 2 ^ 121 + 2 ^ 121 + 2 ^ 121) := by
    generalize (2 : Nat) ^ 121 = P
    grind
  rw [e]
  refine Nat.le_trans (Nat.mul_le_mul h (show 1 + 2 ^ 121 + 2 ^ 121 + 2 ^ 121 ≤ 2 ^ 124 by decide)) ?_
  unfold rB
  rw [← Nat.pow_add]
  exact Nat.pow_le_pow_right (by decide) (by omega)
def IsR (k : Nat) (r : List Int) : Prop := ∀ c, (at0 r c).natAbs + 1 ≤ rB k
theorem IsR.mx {k : Nat} {r : List Int} (h : IsR k r) : ∀ c, (at0 r c).natAbs ≤ rB k - 1 := fun c => by
  have := h c
  omega
theorem rB_pos (k : Nat) : 1 ≤ rB k := Nat.one_le_two_pow
theorem IsR.step {i j k : Nat} {f s v : Pt} {r : List Int} (h : IsR k r) (hi : i < r.length) (hj : j < r.length) (hk : k < r.length) (h0 : crsP f s ≠ 0) (h1 : (crsP f s).natAbs ≤ 2 ^ 121) (h2 : (crsP v s).natAbs ≤ 2 ^ 121) (h3 : (crsP f v).natAbs ≤ 2 ^ 121) :
    IsR (k + 1) (smStep i j f s r k v) := fun c => by
  have q := smStep_bd (v := v) hi hj hk h0 h.mx h1 h2 h3 c
  have p := rB_pos k
  have z := rB_step (k := k) (R := rB k - 1) (by omega)
  exact Nat.le_trans (Nat.succ_le_succ q) z
end Wk
namespace Wk
open PySem PySem.Spec PyProof.Rows L2 Evl
theorem smP_mono {a b : Nat} {v : Pt} (h : SmP a v) (e : a ≤ b) : SmP b v := ⟨Nat.le_trans h.1 e, Nat.le_trans h.2 e⟩
end Wk
namespace Wk
open PySem PySem.Spec PyProof.Rows L2 Evl
def DivS (zs : List Int) (a : Nat) : Prop := (∀ z ∈ zs, (a : Int) ∣ z) ∧ ∀ d : Nat, (∀ z ∈ zs, (d : Int) ∣ z) → d ∣ a
theorem DivS.nil : DivS [] 0 := ⟨(fun _ h => by cases h), fun d _ => Nat.dvd_zero d⟩
end Wk
namespace Wk
open PySem PySem.Spec PyProof.Rows L2 Evl
end Wk
namespace Wk
open PySem PySem.Spec PyProof.Rows L2 Evl
end Wk
namespace Wk
end Wk
namespace Zm
open PySem PySem.Spec PyProof.Rows L2
/-- what stands outside S stands as it did -/
def Rest (S : List Addr) (h h' : Heap) : Prop := ∀ c o, c ∉ S → h.get? c = some o → h'.get? c = some o
section
variable {S T U : List Addr} {h h1 h2 : Heap} {i : Addr}
theorem Rest.ext (e : Heap.ExtBut i h h1) : Rest [i] h h1 := fun c o n x => e c o (by simpa using n) x
theorem Rest.push (o : Obj) : Rest [] h (h.push o) := fun c _ _ e => Heap.get?_push_of_some o e
end
end Zm
namespace Wk
open PySem PySem.Spec PyProof.Rows L2 Evl
end Wk
namespace Wk
open PySem PySem.Spec PyProof.Rows L2 Evl
end Wk
namespace Wk
open PySem
end Wk
namespace Wk
open PySem PySem.Spec PyProof.Rows L2 Evl
/-- of two values that stand for points: the first is not behind the other one -/
def LeD (p q : Pt) : Prop := p.1 < q.1 ∨ (p.1 = q.1 ∧ p.2 ≤ q.2)
section
variable {X : Cx}
theorem leD_of {p q : Pt} (h : SrtO.lexB q p = false) : LeD p q := by
  have z := SrtO.lexB_no.mp h
  unfold LeD
  omega
/-- t.count(x), t a tuple -/
def rCountTD (K : PySem.W.Frag) : V → List V → Hp → VK → Prop := fun x xs H Q => ∃ (a : Addr) (y : V) (d : PyData) (ds : List PyData), x = V.ref a ∧ xs = [y] ∧ Dp K H (V.ref a) (.tuple ds) ∧ Dp K H y d ∧
  PyData.plainAll ds = true ∧ d.plain = true ∧ d.depth ≤ 64 ∧ Q (.int ((ds.countP fun z => PyData.eqv z d : Nat) : Int)) H
theorem mt_tcountK (K : PySem.W.Frag) (hK : X.K = K) (hu : X.A.units + 65 < cLine) : MtR X "tuple.count" (rCountTD K) := by
  subst hK
  intro pins s σ H x xs v us Q I r rxs h
  obtain ⟨a, y, d, ds, rfl, rfl, hl, hy, sl, sd, dep, q⟩ := h
  cases r
  obtain ⟨uy, rfl, ry⟩ := vals1 rxs
  obtain ⟨bs, r1⟩ := Dp.reads I d y uy hy ry
  cases hl with
  | tup hs ha =>
    obtain ⟨its, rv, p, hz⟩ := I.tuple hs
    obtain ⟨as, r2⟩ := Dp.readsAll I ds _ its ha rv
    exact SeqAt.count_tuple_data (vs := its.toArray) p (by rw [List.toList_toArray]; exact r2) r1 sl sd (by have m := Nat.min_le_right (PyData.depthAll ds) d.depth; omega) ⟨.int _, H, I.tok _, ⟨_, rfl⟩, q⟩
/-- a tuple of which it is known that it has no dict of its own -/
def BareT (H : Hp) (a : Addr) : Prop := ∃ (o : Obj) (xs : List V), H a = some (.frz o (.tup xs)) ∧ o.dict = none ∧ o.cls = .type "tuple"
/-- a method of such a tuple -/
def tTM (r : V → List V → Hp → VK → Prop) (to : TE) (t : TA) : TE := fun σ H Q => to σ H fun x H1 => (∃ a, x = .ref a ∧ BareT H1 a) ∧ t σ H1 fun xs H2 => r x xs H2 Q
theorem pe_tm {o e : Expr} {es : List Expr} {to : TE} {t : TA} {name : Str} {apos cpos : Pos} {id : String} {r : V → List V → Hp → VK → Prop} (pa : PlainAttrs "tuple") (slot : Slot "tuple" name id) (hty : typeOf (.builtin id) = pure (.type "method_descriptor")) (hm : MtR X id r)
    (ho : PE X o to) (ha : PA X (e :: es) t) (hbase : attributeBase o name X.env (eval o X.env) = eval o X.env := by rfl)
    (few : ((backTo cpos (starEach (e :: es) X.env)).all (fun x => !x.1) && (backToKw cpos (keywordEach [] X.env)).all (fun x => x.1.isSome) && decide ((e :: es).length + ([] : List Keyword).length + (if ([] : List Keyword).isEmpty then 0 else 1) < 30)) = true := by rfl)
    (line : (apos.endLine == cpos.line) = true := by rfl) (st : starEach (e :: es) X.env = (false, eval e X.env) :: starEach es X.env := by rfl) (plain : (backTo cpos (starEach es X.env)).any (·.1) = false := by rfl) :
    PE X (.Call (.Attribute o name apos) (e :: es) [] cpos) (tTM r to t) where
  run := fun pins s σ H Q I h => by
    refine wpAny_Call_method_late hbase few line rfl (thn (ho.run pins s σ H _ I h) fun v s1 ⟨x, H1, I1, r1, ⟨a, ea, ob, xs, ha1, hd, hc⟩, q1⟩ => ?_)
    subst ea
    cases r1
    have at1 : s1.heap.get? a = some ob := (I1.hok _ _ ha1).1
    have args := ha.run cpos pins s1 σ H1 _ I1 q1
    rw [st] at args ⊢
    refine ⟨"tuple", id, pa, slot, hty, ⟨ob, at1, hc⟩, fun b eb => ?_, Calls.callWith_builtin (by show (false || (backTo cpos (starEach es X.env)).any (·.1)) = false; rw [plain] <;> rfl) (Calls.evalArgs_plain (thn args fun us s2 ⟨vs, H2, I2, r2, q2⟩ => hm pins s2 σ H2 (V.ref a) vs _ us Q I2 rfl r2 q2))⟩
    cases eb
    exact ⟨ob, at1, hd⟩
/-- tuple(l), l a list: the new tuple has no dict -/
def rTupF (K : PySem.W.Frag) : List V → Hp → VK → Prop := fun xs H Q => ∃ p ys, xs = [.ref p] ∧ SqL K H p ys ∧ ∀ (l : Addr) (o : Obj), H l = none → o.dict = none → o.cls = .type "tuple" → Q (.ref l) (upd H l (.frz o (.tup ys)))
theorem call_tupF : CallR X (.type "tuple") (rTupF X.K) := by
  intro pins s σ H xs us Q I r h
  obtain ⟨p, ys, rfl, hs, q⟩ := h
  obtain ⟨u, rfl, ru⟩ := vals1 r
  obtain rfl : u = Value.ref p := ru
  obtain ⟨its, rv, pl, hz⟩ := I.list hs
  refine call_tuple_list pl.isList (fun h' kp => ?_) (by rw [List.size_toArray, ← rv.length]; exact Nat.le_trans hz (Nat.le_refl _))
  have I1 : Inv X pins σ H { s with heap := h' } := I.kept (t' := s.toks) kp
  refine ⟨.ref h'.objs.size, _, I1.laid (t' := s.toks) (fun b o e => Heap.get?_push_of_some _ e) (Nat.le_refl _) (o := HO.frz { cls := .type "tuple", data := .seq its.toArray } (.tup ys)) ⟨Heap.get?_push_size _ rfl, hz, its, rv, IsTup.new _ _⟩, rfl, q _ { cls := .type "tuple", data := .seq its.toArray } (I1.hok.fresh (Nat.le_refl _)) rfl rfl⟩
/-- min(l), l a list of alike data: one of its items -/
def rMinD (K : PySem.W.Frag) : List V → Hp → VK → Prop := fun vs H Q => ∃ (a : Addr) (xs : List V) (d : PyData) (ds : List PyData), vs = [V.ref a] ∧ SqL K H a xs ∧ DpAll K H xs (d :: ds) ∧ PySem.W.AlikeAll (d :: ds) ∧ PyData.depthAll (d :: ds) ≤ 64 ∧ (∀ z ∈ d :: ds, z.canLay0 = true) ∧
  ∀ (i : Nat) x, xs[i]? = some x → (d :: ds)[i]? = some (PySem.W.minD d ds) → Q x H
theorem vals_at {xs : List V} {us : List Value} (r : Vals xs us) {i : Nat} {u : Value} (h : us[i]? = some u) : ∃ x, xs[i]? = some x ∧ RelV x u := by
  induction r generalizing i with
  | nil => simp at h
  | cons a b ih =>
    cases i with
    | zero =>
      cases Option.some.inj h
      exact ⟨_, rfl, a⟩
    | succ i => exact ih h
theorem dpAll_at {K : PySem.W.Frag} {H : Hp} : ∀ {xs : List V} {ds : List PyData}, DpAll K H xs ds → ∀ {i : Nat} {x : V}, xs[i]? = some x → ∃ d, ds[i]? = some d ∧ Dp K H x d
  | _, _, .nil, i, x, h => by simp at h
  | _, _, .cons a b, 0, x, h => by
    cases Option.some.inj h
    exact ⟨_, rfl, a⟩
  | _, _, .cons a b, i + 1, x, h => dpAll_at b h
theorem cr_minD (hc : X.calm = true) (hu : X.A.units + 65 < cLine) : CallR X (.builtin "min") (rMinD X.K) := by
  intro pins s σ H vs us Q I r h
  obtain ⟨a, xs, d, ds, rfl, hs, hd, al, dep, cl, q⟩ := h
  obtain ⟨u, rfl, ru⟩ := vals1 r
  obtain rfl : u = Value.ref a := ru
  obtain ⟨its, rv, pl, hz⟩ := I.list hs
  obtain ⟨as, r2⟩ := Dp.readsAll I (d :: ds) _ its hd rv
  refine PySem.W.min_list_data (vs := its.toArray) (I.ok.hd hc) pl.isList (by rw [List.toList_toArray]; exact r2) al (by omega) fun i v h' tk bs hv rd kp => ?_
  obtain ⟨x, hx, rx⟩ := vals_at rv (by simpa using hv : its[i]? = some v)
  obtain ⟨y, hy, dy⟩ := dpAll_at hd hx
  obtain ⟨bs2, r3⟩ := Dp.reads I y x v dy rx
  have e : y = PySem.W.minD d ds := ((Reads.keeps kp r3).unique _ _ rd).1
  exact ⟨x, H, I.kept (t' := tk) kp, rx, q i x hx (by rw [hy, e])⟩
end
section
variable {K : PySem.W.Frag} {ρ : Rho} {M : Mm} {Φ : Dt → Mm → Prop}
/-- data of a point -/
abbrev ptP (p : Pt) : PyData := .tuple [.int p.1, .int p.2]
theorem ptP_lt (p q : Pt) : PySem.W.dataLt (ptP p) (ptP q) = SrtO.lexB p q := by
  have il : ∀ x y : Int, PyProof.Rows.itemLt (.inl x) (.inl y) = decide (x < y) := fun _ _ => rfl
  show PyProof.Rows.lexLt PyProof.Rows.itemOrd ([.inl 1, .inl p.1, .inl 1, .inl p.2, .inl 0] : List (Int ⊕ List Nat)) ([.inl 1, .inl q.1, .inl 1, .inl q.2, .inl 0] : List (Int ⊕ List Nat)) = _
  unfold SrtO.lexB
  simp only [PyProof.Rows.lexLt, il, Int.lt_irrefl, decide_false, Bool.false_or, Bool.not_false, Bool.true_and]
  by_cases e : p.1 = q.1
  · rw [if_pos e, e]
    simp [il]
  · rw [if_neg e]
    by_cases l : p.1 < q.1
    · simp [il, l]
    · have g : q.1 < p.1 := by omega
      simp [il, l, g]
theorem ptP_eqv (p q : Pt) : PyData.eqv (ptP p) (ptP q) = decide (p = q) := eqB_p2 p q
theorem dpAll_of {H : Hp} : ∀ {us : List V} {ps : List Pt}, RpAll K H us (ps.map P2) → DpAll K H us (ps.map ptP)
  | [], [], _ => .nil
  | u :: us, p :: ps, .cons a b => .cons (dp_of a (plain_p2 p)) (dpAll_of b)
theorem plainAll_pts : ∀ ps : List Pt, PyData.plainAll (ps.map ptP) = true
  | [] => rfl
  | p :: ps => by
    rw [List.map_cons]
    show (_ && PyData.plainAll (ps.map ptP)) = true
    rw [plainAll_pts ps] <;> rfl
theorem depth_pts : ∀ ps : List Pt, PyData.depthAll (ps.map ptP) ≤ 3
  | [] => by decide
  | p :: ps => by
    rw [List.map_cons]
    exact Nat.max_le.mpr ⟨(by decide : (ptP (0, 0)).depth ≤ 3), depth_pts ps⟩
theorem depth_pt (p : Pt) : (ptP p).depth ≤ 64 := (by decide : (ptP (0, 0)).depth ≤ 64)
theorem countP_pts (ps : List Pt) (p : Pt) : (ps.map ptP).countP (fun z => PyData.eqv z (ptP p)) = ps.count p := by
  rw [List.countP_map, List.count]
  congr 1
  funext z
  show PyData.eqv (ptP z) (ptP p) = _
  rw [ptP_eqv]
  exact (Bool.beq_eq_decide_eq z p).symm
/-- how often a point stands in a tuple of points -/
theorem ex_tcount {to : TE} {t : TA} {ps : List Pt} {p : Pt} (h : EX K to ρ M (fun x M1 => x = .ftp (ps.map P2) ∧ AX K t ρ M1 (fun ds M2 => ds = [P2 p] ∧ Φ (.int (ps.count p : Nat)) M2))) : EX K (tTM (rCountTD K) to t) ρ M Φ := fun B H H1 σ o s Q q =>
  h B H H1 σ o s _ fun v d M1 H' H2 z k e r => by
    obtain ⟨rfl, z⟩ := z
    obtain ⟨a, ob, us, rfl, h1, hd, hc, r1⟩ := r.ftp_inv
    refine ⟨⟨a, rfl, ob, us, k.h _ _ h1, hd, hc⟩, z B H' H2 σ k (s.mono e) _ fun vs ds M2 H3 H4 z2 k2 e2 r2 => ?_⟩
    obtain ⟨rfl, z2⟩ := z2
    cases r2 with
    | cons rx rr =>
      cases rr
      have r3 := dpAll_of (r1.mono (e2.trans k2.h))
      refine ⟨a, _, ptP p, ps.map ptP, rfl, rfl, .tup (.inl (.inr ⟨ob, k2.h _ _ (e2 _ _ h1)⟩)) r3, dp_of (rx.mono k2.h) (plain_p2 p), plainAll_pts ps, rfl, depth_pt p, ?_⟩
      rw [countP_pts]
      exact q _ _ M2 H3 H4 z2 k2 (e.trans e2) (.int _)
theorem cx_tupF {xs : List Dt} (k : Φ (.ftp xs) M) : CX K (rTupF K) [.lst xs] M Φ := fun B H H1 vs o r Q q => by
  cases r with
  | cons r rr =>
    cases rr
    obtain ⟨a, us, rfl, h1, r1⟩ := r.lst_inv
    refine ⟨a, us, rfl, sq_of (o.h _ _ h1), fun p ob hp hd hc => ?_⟩
    have e := Ex.new (o := .frz ob (.tup us)) (fresh_back o.h hp)
    exact q _ _ M _ _ k (o.grow hp) e (.ftp upd_same hd hc (r1.mono e))
theorem leD_refl (p : Pt) : LeD p p := .inr ⟨rfl, Int.le_refl _⟩
theorem leD_trans {p q r : Pt} (h1 : LeD p q) (h2 : LeD q r) : LeD p r := by
  unfold LeD at *
  omega
theorem min_pts : ∀ (ps : List Pt) (p : Pt), ∃ m, m ∈ p :: ps ∧ PySem.W.minD (ptP p) (ps.map ptP) = ptP m ∧ ∀ z ∈ p :: ps, LeD m z
  | [], p => ⟨p, List.mem_cons_self, rfl, fun z hz => by rw [List.mem_singleton.mp hz]; exact leD_refl p⟩
  | q :: ps, p => by
    have e : PySem.W.minD (ptP p) ((q :: ps).map ptP) = PySem.W.minD (if PySem.W.dataLt (ptP q) (ptP p) then ptP q else ptP p) (ps.map ptP) := rfl
    rw [e, ptP_lt]
    cases hb : SrtO.lexB q p with
    | true =>
      obtain ⟨m, hm, em, lm⟩ := min_pts ps q
      have c := SrtO.lexB_iff.mp hb
      refine ⟨m, List.mem_cons_of_mem _ hm, em, fun z hz => ?_⟩
      rcases List.mem_cons.mp hz with rfl | hz
      · exact leD_trans (lm q List.mem_cons_self) (by unfold LeD; omega)
      · exact lm z hz
    | false =>
      obtain ⟨m, hm, em, lm⟩ := min_pts ps p
      refine ⟨m, ?_, em, fun z hz => ?_⟩
      · rcases List.mem_cons.mp hm with rfl | hm
        · exact List.mem_cons_self
        · exact List.mem_cons_of_mem _ (List.mem_cons_of_mem _ hm)
      · rcases List.mem_cons.mp hz with rfl | hz
        · exact lm _ List.mem_cons_self
        · rcases List.mem_cons.mp hz with rfl | hz
          · exact leD_trans (lm p List.mem_cons_self) (leD_of hb)
          · exact lm z (List.mem_cons_of_mem _ hz)
/-- the least of points -/
theorem cx_minP {p : Pt} {ps : List Pt} (k : ∀ m, m ∈ p :: ps → (∀ z ∈ p :: ps, LeD m z) → Φ (P2 m) M) : CX K (rMinD K) [Lps (p :: ps)] M Φ := fun B H H1 vs o r Q q => by
  cases r with
  | cons r rr =>
    cases rr
    obtain ⟨a, us, rfl, h1, r1⟩ := r.lst_inv
    have al : PySem.W.AlikeAll (ptP p :: ps.map ptP) := by
      refine ⟨fun x hx y hy => ?_, fun x hx => ?_⟩
      · rw [← List.map_cons] at hx hy
        obtain ⟨x', _, rfl⟩ := List.mem_map.mp hx
        obtain ⟨y', _, rfl⟩ := List.mem_map.mp hy
        rfl
      · rw [← List.map_cons] at hx
        obtain ⟨x', _, rfl⟩ := List.mem_map.mp hx
        exact nofun
    have r3 : DpAll K H1 us (ptP p :: ps.map ptP) := dpAll_of (ps := p :: ps) (r1.mono o.h)
    obtain ⟨m, hm, em, lm⟩ : ∃ m, m ∈ p :: ps ∧ PySem.W.minD (ptP p) (ps.map ptP) = ptP m ∧ ∀ z ∈ p :: ps, LeD m z := min_pts ps p
    refine ⟨a, us, ptP p, ps.map ptP, rfl, sq_of (o.h _ _ h1), r3, al, Nat.le_trans (depth_pts (p :: ps)) (by decide), fun z hz => ?_, fun i x hx hi => ?_⟩
    · rw [← List.map_cons] at hz
      obtain ⟨z', _, rfl⟩ := List.mem_map.mp hz
      rfl
    · rw [em, ← List.map_cons, List.getElem?_map] at hi
      obtain ⟨y, hy, ey⟩ := Option.map_eq_some_iff.mp hi
      have e : y = m := by
        simp only [ptP, PyData.tuple.injEq, List.cons.injEq, PyData.int.injEq, and_true] at ey
        exact Prod.ext ey.1 ey.2
      subst e
      obtain ⟨dd, hd, rr⟩ := r1.getV hx
      rw [List.getElem?_map, hy] at hd
      cases hd
      exact q _ _ M H H1 (k y hm lm) o (Ex.refl H) rr
end
end Wk
namespace Wk
open PySem PySem.Spec PyProof.Rows L2 Evl
/-- an own class that is made without arguments, with the __init__ of object -/
structure Bare0 (K : PySem.W.Frag) (C : Addr) : Prop where
  mak : PySem.W.makesIn K C = true
  ini : PySem.W.findIn K (.ref C) "__init__" = some (some (.builtin "object.__init__"))
  kp : PySem.W.keepIn K (.ref C) = true
section
variable {X : Cx} {C : Addr} {x : Str} {p pos : Pos}
theorem run_bare {pins : List (Addr × Obj)} {σ : L2.St} {H : Hp} {s : Shared} {Q : VK} (B : Bare0 X.K C) (I : Inv X pins σ H s)
    (h : ∀ x dx, H x = none → H dx = none → dx ≠ x → Q (.ref x) (upd (upd H dx (.own x)) x (.ins C dx []))) : wpAny (model X.prog X.w) X.A (call (.ref C) []) (EP X pins σ Q) X.xe s := by
  have I2 := Inv.made (C := C) I
  obtain ⟨hp, g, d, t, os⟩ := s
  have Y := PySem.W.makes_of (M := model X.prog X.w) I.kIn B.mak
  refine wpAny_call (PySem.W.make_core Y (PySem.W.looks_findIn I.kIn B.ini) (fun self => PySem.W.Looks.of_pure (PySem.W.oi_bind self)) (.inr ⟨rfl, rfl⟩) ?_)
  have old : ∀ b o, hp.get? b = some o → ((hp.push PySem.W.emptyDict).push (PySem.W.instObj C hp.objs.size)).get? b = some o := fun b o e => Heap.get?_push_of_some _ (Heap.get?_push_of_some _ e)
  have it : ((hp.push PySem.W.emptyDict).push (PySem.W.instObj C hp.objs.size)).get? (hp.objs.size + 1) = some (PySem.W.instObj C hp.objs.size) := by
    have z := Heap.get?_push_size (hp.push PySem.W.emptyDict) (o := PySem.W.instObj C hp.objs.size) rfl
    rwa [Heap.size_push] at z
  have ty : PySem.W.Looks (model X.prog X.w) ((hp.push PySem.W.emptyDict).push (PySem.W.instObj C hp.objs.size)) (isInstance (.ref (hp.objs.size + 1)) (.type "object")) true :=
    ((PySem.W.Looks.ld (part := none) it).andThen .now).andThen (Y.top.keeps old)
  refine codeAny_call_builtin PySem.W.oi_plain PySem.W.entry_oi (PySem.W.check_slot PySem.W.oi_kind PySem.W.oi_split ty (PySem.W.oi_args _) ?_)
  rw [PySem.W.oi_run]
  exact wpAny_pure ⟨rfl, .ref (hp.objs.size + 1), _, I2, rfl, h _ _ (I.hok.fresh (Nat.le_succ _)) (I.hok.fresh (Nat.le_refl _)) (Nat.ne_of_lt (Nat.lt_succ_self _))⟩
def tBare (C : Addr) : TE := fun _ H Q => ∀ x dx, H x = none → H dx = none → dx ≠ x → Q (.ref x) (upd (upd H dx (.own x)) x (.ins C dx []))
theorem pe_bare (B : Bare0 X.K C) (hm : X.mg x = some (.ref C)) (hg : Gl X x) (hdb : (x == ("__debug__" : Str)) = false := by decide) : PE X (.Call (.Name x p) [] [] pos) (tBare C) where
  run := fun pins s σ H Q I h => wpAny_Call_Name_kw (ld_glob I hg hm (PySem.W.callWith_K0 I.kIn B.kp (run_bare B I h)) hdb)
end
section
variable {K : PySem.W.Frag} {ρ : Rho} {M : Mm} {Φ : Dt → Mm → Prop} {C : Addr}
theorem ex_bare (h : Φ (.obj C []) M) : EX K (tBare C) ρ M Φ := fun B H H1 σ o s Q q x dx hx hdx ne => by
  have e1 := Ex.new (o := .own x) (fresh_back o.h hdx)
  have hx1 : upd H dx (.own x) x = none := by
    rw [upd_ne ne.symm]
    exact fresh_back o.h hx
  have hx2 : upd H1 dx (.own x) x = none := by
    rw [upd_ne ne.symm]
    exact hx
  have e2 := Ex.new (o := .ins C dx []) hx1
  exact q _ _ M _ _ h ((o.grow hdx).grow hx2) (e1.trans e2) (.obj upd_same .nil)
end
end Wk
namespace Wk
open PySem PySem.Spec PyProof.Rows L2 Evl
/-- the differences of vectors to the first of them -/
def diffP (es : List Pt) : List Pt := es.tail.map fun e => subP e (ptD es 0)
/-- a, b, modulus -/
abbrev Cg := Int × Int × Int
def valF (c : Cg) (v : Pt) : Int := c.1 * v.1 + c.2.1 * v.2
def vanF (c : Cg) (v : Pt) : Bool := if c.2.2 = 0 then decide (valF c v = 0) else decide (valF c v % c.2.2 = 0)
theorem vanF_iff {c : Cg} {v : Pt} : vanF c v = true ↔ c.2.2 ∣ valF c v := by
  unfold vanF
  by_cases h : c.2.2 = 0
  · rw [if_pos h, h, decide_eq_true_iff, Int.zero_dvd]
  · rw [if_neg h, decide_eq_true_iff]
    exact (Int.dvd_iff_emod_eq_zero).symm
theorem valF_sub (c : Cg) (u v : Pt) : valF c (subP u v) = valF c u - valF c v := by
  unfold valF subP
  show c.1 * (u.1 - v.1) + c.2.1 * (u.2 - v.2) = _
  grind
/-- the two congruences of a basis (a, b), (0, h) -/
def cg1 (a : Int) : Cg := (1, 0, a)
def cg2 (a b h : Int) : Cg := (-b, (if 1 > a then 1 else a), (if 1 > a then 1 else a) * h)
theorem cg_mem {vs : List Pt} {a b h : Int} (B : Bas vs a b h) (v : Pt) : Mem vs v ↔ vanF (cg1 a) v = true ∧ vanF (cg2 a b h) v = true := by
  rw [B.mem, vanF_iff, vanF_iff]
  have h1 : (cg1 a).2.2 ∣ valF (cg1 a) v ↔ a ∣ v.1 := by
    show a ∣ 1 * v.1 + 0 * v.2 ↔ a ∣ v.1
    rw [Int.one_mul, Int.zero_mul, Int.add_zero]
  rw [h1]
  have a0 := B.a0
  by_cases hz : a = 0
  · have b0 := B.fz hz
    subst hz b0
    have h2 : (cg2 0 0 h).2.2 ∣ valF (cg2 0 0 h) v ↔ h ∣ v.2 := by
      show 1 * h ∣ -0 * v.1 + 1 * v.2 ↔ h ∣ v.2
      simp
    rw [h2, Int.zero_dvd]
    constructor
    · rintro ⟨p, q, e1, e2⟩
      exact ⟨by rw [e1]; simp, ⟨q, by rw [e2]; simp [Int.mul_comm]⟩⟩
    · rintro ⟨e1, q, e2⟩
      exact ⟨0, q, by rw [e1]; simp, by rw [e2]; simp [Int.mul_comm]⟩
  · have sc : (if 1 > a then (1 : Int) else a) = a := by
      rw [if_neg (by omega)]
    have h2 : (cg2 a b h).2.2 ∣ valF (cg2 a b h) v ↔ a * h ∣ -b * v.1 + a * v.2 := by
      unfold cg2 valF
      rw [sc]
    rw [h2]
    constructor
    · rintro ⟨p, q, e1, e2⟩
      refine ⟨⟨p, by rw [e1, Int.mul_comm]⟩, ⟨q, ?_⟩⟩
      rw [e1, e2]
      grind
    · rintro ⟨⟨p, e1⟩, ⟨q, e2⟩⟩
      refine ⟨p, q, by rw [e1, Int.mul_comm], ?_⟩
      rw [e1] at e2
      have e3 : a * (v.2 - (p * b + q * h)) = 0 := by grind
      rcases Int.mul_eq_zero.mp e3 with e | e
      · exact absurd e hz
      · omega
/-- a congruence holds against a motion -/
def holdC (c : Cg) (ps qs : List Pt) : Bool := (diffP (sticksP ps)).all (vanF c) && !vanF c (subP (ptD qs 0) (ptD ps 0))
def cgA (ps : List Pt) : Cg := cg1 (at0 (basF (diffP (sticksP ps))).1 0)
def cgB (ps : List Pt) : Cg := cg2 (at0 (basF (diffP (sticksP ps))).1 0) (at0 (basF (diffP (sticksP ps))).1 1) (at0 (basF (diffP (sticksP ps))).2 1)
/-- what polygons are bounded by -/
structure PolyB (ps : List Pt) : Prop where
  l3 : 3 ≤ ps.length
  l8 : ps.length ≤ 8
  bp : Bd (2 ^ 56) ps
  bs : Bd (2 ^ 49) (sticksP ps)
theorem bd_sm {B : Int} {n : Nat} {p : Pt} {ps : List Pt} (h : Bd B ps) (e : B ≤ (n : Int)) (hp : p ∈ ps) : SmP n p := by
  have q := h p hp
  exact ⟨by omega, by omega⟩
theorem diff_mem {es : List Pt} {v : Pt} (h : v ∈ diffP es) : ∃ e ∈ es, ∃ f ∈ es, v = subP e f := by
  unfold diffP at h
  obtain ⟨e, he, rfl⟩ := List.mem_map.mp h
  refine ⟨e, List.mem_of_mem_tail he, ptD es 0, ?_, rfl⟩
  cases es with
  | nil => cases he
  | cons x es => exact List.mem_cons_self
theorem PolyB.diff {ps : List Pt} (h : PolyB ps) : ∀ v ∈ diffP (sticksP ps), SmP (2 ^ 50) v := fun v hv => by
  obtain ⟨e, he, f, hf, rfl⟩ := diff_mem hv
  have a := h.bs e he
  have b := h.bs f hf
  have p49 : (2 : Int) ^ 49 = 562949953421312 := by decide
  have p50 : 2 ^ 50 = 1125899906842624 := by decide
  rw [p49] at a b
  unfold SmP subP
  rw [p50]
  exact ⟨by show (e.1 - f.1).natAbs ≤ _; omega, by show (e.2 - f.2).natAbs ≤ _; omega⟩
theorem diff_len (es : List Pt) : (diffP es).length = es.length - 1 := by
  unfold diffP
  rw [List.length_map, List.length_tail]
theorem PolyB.len {ps : List Pt} (h : PolyB ps) : (diffP (sticksP ps)).length ≤ 7 := by
  rw [diff_len, sticksP_length]
  have := h.l8
  omega
theorem PolyB.binv {ps : List Pt} (h : PolyB ps) : BInv (diffP (sticksP ps)) (2 ^ 50) (diffP (sticksP ps)).length (basF (diffP (sticksP ps))) := bas_inv (by decide) h.diff
theorem PolyB.bas {ps : List Pt} (h : PolyB ps) : Bas (diffP (sticksP ps)) (at0 (basF (diffP (sticksP ps))).1 0) (at0 (basF (diffP (sticksP ps))).1 1) (at0 (basF (diffP (sticksP ps))).2 1) := h.binv.bas
theorem PolyB.mem {ps : List Pt} (h : PolyB ps) (v : Pt) : Mem (diffP (sticksP ps)) v ↔ vanF (cgA ps) v = true ∧ vanF (cgB ps) v = true := cg_mem h.bas v
/-- numbers of a congruence -/
structure CgOk (c : Cg) : Prop where
  a : c.1.natAbs < 2 ^ 2000
  b : c.2.1.natAbs < 2 ^ 2000
  m : c.2.2.natAbs < 2 ^ 2000
  m0 : 0 ≤ c.2.2
theorem PolyB.num {ps : List Pt} (h : PolyB ps) : (at0 (basF (diffP (sticksP ps))).1 0).natAbs ≤ 2 ^ 50 ∧ (at0 (basF (diffP (sticksP ps))).1 1).natAbs ≤ 2 ^ 900 ∧ (at0 (basF (diffP (sticksP ps))).2 1).natAbs ≤ 2 ^ 900 := by
  have B := h.binv
  have q := mB_num (V := 2 ^ 50) (k := (diffP (sticksP ps)).length) (Nat.le_refl _) (by have := h.len; omega)
  exact ⟨B.b0, Nat.le_trans B.bf q, Nat.le_trans B.bs q⟩
theorem PolyB.okA {ps : List Pt} (h : PolyB ps) : CgOk (cgA ps) where
  a := (Nat.one_lt_two_pow (by decide) : 1 < 2 ^ 2000)
  b := (Nat.two_pow_pos 2000 : 0 < 2 ^ 2000)
  m := Nat.lt_of_le_of_lt h.num.1 (Nat.pow_lt_pow_right (by decide) (by decide))
  m0 := h.bas.a0
theorem PolyB.sc {ps : List Pt} (h : PolyB ps) : (if 1 > at0 (basF (diffP (sticksP ps))).1 0 then (1 : Int) else at0 (basF (diffP (sticksP ps))).1 0).natAbs ≤ 2 ^ 50 ∧ 0 ≤ (if 1 > at0 (basF (diffP (sticksP ps))).1 0 then (1 : Int) else at0 (basF (diffP (sticksP ps))).1 0) := by
  have n := h.num.1
  split
  · exact ⟨by decide, by decide⟩
  · exact ⟨n, by omega⟩
theorem PolyB.okB {ps : List Pt} (h : PolyB ps) : CgOk (cgB ps) where
  a := by
    show (-(at0 (basF (diffP (sticksP ps))).1 1)).natAbs < _
    rw [Int.natAbs_neg]
    exact Nat.lt_of_le_of_lt h.num.2.1 (Nat.pow_lt_pow_right (by decide) (by decide))
  b := Nat.lt_of_le_of_lt h.sc.1 (Nat.pow_lt_pow_right (by decide) (by decide))
  m := by
    show (_ * _ : Int).natAbs < _
    rw [Int.natAbs_mul]
    refine Nat.lt_of_le_of_lt (Nat.mul_le_mul h.sc.1 h.num.2.2) ?_
    rw [← Nat.pow_add]
    exact Nat.pow_lt_pow_right (by decide) (by decide)
  m0 := Int.mul_nonneg h.sc.2 h.bas.h0
/-- sticks whose number differs -/
def dfs (ps qs : List Pt) : List Pt := (sticksP ps ++ sticksP qs).filter fun s => decide ((sticksP ps).count s ≠ (sticksP qs).count s)
section
variable (C JC SC CG : Addr)
abbrev jcD : Dt := .obj JC []
abbrev scD (v : Pt) : Dt := .obj SC [("stick", P2 v)]
abbrev cgD (c : Cg) : Dt := .obj CG [("a", .int c.1), ("b", .int c.2.1), ("modulus", .int c.2.2)]
/-- the last words: a congruence that holds, or none -/
def lastD (ps qs : List Pt) : Dt := if holdC (cgA ps) ps qs = true then cgD CG (cgA ps) else if holdC (cgB ps) ps qs = true then cgD CG (cgB ps) else .non
/-- what reason_against answers -/
inductive ResR (ps qs : List Pt) : Dt → Prop
  | len : ps.length ≠ qs.length → ResR ps qs (jcD JC)
  | stk {m : Pt} : ps.length = qs.length → m ∈ dfs ps qs → (∀ z ∈ dfs ps qs, LeD m z) → ResR ps qs (scD SC m)
  | last : ps.length = qs.length → dfs ps qs = [] → ResR ps qs (lastD CG ps qs)
end
/-- the law's remainders -/
def remF (c : Cg) (v : Pt) : Int := if 0 < c.2.2 then valF c v % c.2.2 else valF c v
theorem rem_eq {c : Cg} {u v : Pt} (h : 0 ≤ c.2.2) (z : vanF c (subP u v) = true) : remF c u = remF c v := by
  rw [vanF_iff, valF_sub] at z
  unfold remF
  by_cases m : 0 < c.2.2
  · rw [if_pos m, if_pos m]
    exact Int.emod_eq_emod_iff_emod_sub_eq_zero.mpr (Int.emod_eq_zero_of_dvd z)
  · have e : c.2.2 = 0 := by omega
    rw [if_neg m, if_neg m]
    rw [e, Int.zero_dvd] at z
    omega
theorem rem_ne {c : Cg} {v : Pt} (h : 0 ≤ c.2.2) (z : vanF c v = false) : remF c v ≠ 0 := fun e => by
  have n : ¬ vanF c v = true := by rw [z]; decide
  refine n (vanF_iff.mpr ?_)
  unfold remF at e
  by_cases m : 0 < c.2.2
  · rw [if_pos m] at e
    exact Int.dvd_of_emod_eq_zero e
  · rw [if_neg m] at e
    rw [e]
    exact Int.dvd_zero _
end Wk
namespace Wk
open PySem PySem.Spec PyProof.Rows L2 Evl
/-- the classes of the reasons -/
structure TxR (K : PySem.W.Frag) (mg : Str → Option Value) (JC SC CG : Addr) : Prop where
  gJ : mg "JointCount" = some (.ref JC)
  gS : mg "StickCount" = some (.ref SC)
  gC : mg "Congruence" = some (.ref CG)
  clJ : Cls K JC
  clS : Cls K SC
  clC : Cls K CG
  nS : NoAttr K SC "stick"
  nA : NoAttr K CG "a"
  nB : NoAttr K CG "b"
  nM : NoAttr K CG "modulus"
  isJ : IsC K JC
  isS : IsC K SC
  isC : IsC K CG
  kJ : PySem.W.kitOne K (.ref JC) (.ref JC) = some true
  kS : PySem.W.kitOne K (.ref SC) (.ref SC) = some true
  kC : PySem.W.kitOne K (.ref CG) (.ref CG) = some true
  bJ : Bare0 K JC
section
variable (K : PySem.W.Frag) (C JC SC CG : Addr)
abbrev spDiff : Sp := SpP K (fun (es : List Pt) => [Pts es]) (fun es => 1 ≤ es.length ∧ es.length ≤ 8) (fun es => Lps (diffP es))
abbrev spSticksF : Sp := SpP K (fun (ps : List Pt) => [polyD C ps]) (fun ps => ps.length ≤ 1000) (fun ps => .ftp ((sticksP ps).map P2))
abbrev spSticksLF : Sp := SpP K (fun (ps : List Pt) => [Pts ps]) (fun ps => ps.length ≤ 8) (fun ps => .ftp ((sticksP ps).map P2))
abbrev spIniS : Sp := SpD K (fun (x : Addr × Dt) ds M => ds = [.raw (.ref x.1), x.2] ∧ M x.1 = some (.ins SC [])) (fun x M d M' => d = .non ∧ M' = put M x.1 (.ins SC [("stick", x.2)]))
abbrev spIniC : Sp := SpD K (fun (x : Addr × Dt × Dt × Dt) ds M => ds = [.raw (.ref x.1), x.2.1, x.2.2.1, x.2.2.2] ∧ M x.1 = some (.ins CG [])) (fun x M d M' => d = .non ∧ M' = put M x.1 (.ins CG [("a", x.2.1), ("b", x.2.2.1), ("modulus", x.2.2.2)]))
abbrev spHoldJ : Sp := SpP K (fun (x : List Pt × List Pt) => [jcD JC, polyD C x.1, polyD C x.2]) (fun x => x.1.length ≤ 1000 ∧ x.2.length ≤ 1000) (fun x => .bl (decide (x.1.length ≠ x.2.length)))
abbrev spHoldS : Sp := SpP K (fun (x : Pt × List Pt × List Pt) => [scD SC x.1, polyD C x.2.1, polyD C x.2.2]) (fun x => x.2.1.length ≤ 1000 ∧ x.2.2.length ≤ 1000) (fun x => .bl (decide ((sticksP x.2.1).count x.1 ≠ (sticksP x.2.2).count x.1)))
abbrev spVan : Sp := SpP K (fun (x : Cg × Pt) => [cgD CG x.1, P2 x.2]) (fun x => CgOk x.1 ∧ SmP (2 ^ 60) x.2) (fun x => .bl (vanF x.1 x.2))
abbrev spHoldC : Sp := SpP K (fun (x : Cg × List Pt × List Pt) => [cgD CG x.1, polyD C x.2.1, polyD C x.2.2]) (fun x => CgOk x.1 ∧ PolyB x.2.1 ∧ PolyB x.2.2) (fun x => .bl (holdC x.1 x.2.1 x.2.2))
abbrev spCongs : Sp := SpP K (fun (ps : List Pt) => [polyD C ps]) (fun ps => PolyB ps) (fun ps => .tup [cgD CG (cgA ps), cgD CG (cgB ps)])
abbrev spReason : Sp := SpD K (fun (x : List Pt × List Pt) ds M => ds = [polyD C x.1, polyD C x.2] ∧ PolyB x.1 ∧ PolyB x.2) (fun x M d M' => M' = M ∧ ResR JC SC CG x.1 x.2 d)
abbrev spRearr : Sp := SpD K (fun (x : Addr × List Pt × Int × Int) ds M => ds = [.raw (.ref x.1), Pts x.2.1, .int x.2.2.1] ∧ (∃ c, M x.1 = some c ∧ IsSrc x.2.2.2 c) ∧ 3 ≤ x.2.1.length ∧ x.2.1.length ≤ 8 ∧ Bd (10 ^ 9) x.2.1 ∧ 0 ≤ x.2.2.1 ∧ x.2.2.1 ≤ 10 ^ 6 ∧ x.2.2.2 ≤ 2 ^ 20)
  (fun x M d M' => ∃ qs c', d = Pts qs ∧ PolyB qs ∧ M' = put M x.1 c' ∧ IsSrc (x.2.2.2 + 60) c')
end
section
variable {K : PySem.W.Frag} {ρ : Rho} {M : Mm} {Φ : Dt → Mm → Prop} {te : TE} {E : XK} {C : Addr}
theorem ex_sticksF {ps : List Pt} (hl : ps.length ≤ 1000) (h : EX K te ρ M (fun x M1 => x = polyD C ps ∧ Φ (.ftp ((sticksP ps).map P2)) M1)) : EX K (tProp C (spSticksF K C) [] E te) ρ M Φ := ex_propP (h.mono fun x M1 ⟨e, z⟩ => ⟨_, e, ps, rfl, hl, z⟩)
end
section
variable {K : PySem.W.Frag} {M : Mm} {Φ : Dt → Mm → Prop}
theorem cx_all {bs : List Bool} (k : Φ (.bl (bs.all id)) M) : CX K (rAll K) [.lst (bs.map Dt.bl)] M Φ := fun B H H1 vs o r Q q => by
  cases r with
  | cons r rr =>
    cases rr
    obtain ⟨a, us, rfl, h1, r1⟩ := r.lst_inv
    have e := r1.bls
    subst e
    exact ⟨a, bs, rfl, sq_of (o.h _ _ h1), q _ _ M H H1 k o (Ex.refl H) (.bl _)⟩
end
theorem rows_at {vs : List (Int × Int)} {r : List Int} (h : Cons vs r) : atI (r.map Dt.int) 0 = some (.int (at0 r 0)) ∧ atI (r.map Dt.int) 1 = some (.int (at0 r 1)) := by
  obtain ⟨x, y, cs, rfl, _, _⟩ := h.ex
  exact ⟨atI_at (j := 0) rfl, atI_at (j := 1) rfl⟩
theorem pt_at {ps : List Pt} (h : 0 < ps.length) : atI (ps.map P2) 0 = some (P2 (ptD ps 0)) := by
  cases ps with
  | nil => cases h
  | cons x ps => exact atI_at (j := 0) rfl
theorem PolyB.mot {ps qs : List Pt} (hp : PolyB ps) (hq : PolyB qs) : SmP (2 ^ 60) (subP (ptD qs 0) (ptD ps 0)) := by
  have p56 : (2 : Int) ^ 56 = 72057594037927936 := by decide
  have p60 : 2 ^ 60 = 1152921504606846976 := by decide
  have m : ∀ {rs : List Pt}, PolyB rs → ptD rs 0 ∈ rs := fun {rs} h => by
    have l := h.l3
    cases rs with
    | nil => cases l
    | cons x rs => exact List.mem_cons_self
  have a := hp.bp _ (m hp)
  have b := hq.bp _ (m hq)
  rw [p56] at a b
  unfold SmP subP
  rw [p60]
  exact ⟨by show ((ptD qs 0).1 - (ptD ps 0).1).natAbs ≤ _; omega, by show ((ptD qs 0).2 - (ptD ps 0).2).natAbs ≤ _; omega⟩
theorem PolyB.pos {ps : List Pt} (h : PolyB ps) : 0 < ps.length := Nat.lt_of_lt_of_le (by decide) h.l3
theorem tx_tru_lst {K : PySem.W.Frag} {ρ : Rho} {M : Mm} {te : TE} {Φ : Bool → Mm → Prop} (h : EX K te ρ M (fun d M1 => ∃ xs, d = .lst xs ∧ Φ (!xs.isEmpty) M1)) : TX K (tTru K te) ρ M Φ := fun B H H1 σ o s Q q =>
  h B H H1 σ o s _ fun v d M' H' H2 z k e r => by
    obtain ⟨xs, rfl, z⟩ := z
    obtain ⟨a, us, rfl, h1, r1⟩ := r.lst_inv
    have e1 : us.isEmpty = xs.isEmpty := by
      have l := r1.length
      cases us <;> cases xs <;> simp_all
    rw [← e1] at z
    exact ⟨_, .inl ⟨us, sq_of (k.h _ _ h1), rfl⟩, q _ _ _ _ z k e⟩
theorem filter_take {α : Type} {l : List α} {p : α → Bool} {i : Nat} {x : α} (h : l[i]? = some x) : (l.take (i + 1)).filter p = (l.take i).filter p ++ (if p x = true then [x] else []) := by
  rw [List.take_add_one, h, List.filter_append]
  by_cases e : p x = true
  · simp [e]
  · simp [e]
theorem mem_zero {vs : List Pt} {v : Pt} : Mem ((0, 0) :: vs) v ↔ Mem vs v := by
  constructor
  · rintro ⟨cs, hl, rfl⟩
    cases cs with
    | nil => cases hl
    | cons c cs =>
      refine ⟨cs, by simpa using hl, ?_⟩
      show dotP cs vs = (c * 0 + (dotP cs vs).1, c * 0 + (dotP cs vs).2)
      simp
  · rintro ⟨cs, hl, rfl⟩
    refine ⟨0 :: cs, by simpa using hl, ?_⟩
    show ((0 : Int) * 0 + (dotP cs vs).1, (0 : Int) * 0 + (dotP cs vs).2) = dotP cs vs
    simp
theorem diffs_all {es : List Pt} (h : 0 < es.length) : (es.map fun e => subP e (ptD es 0)) = (0, 0) :: diffP es := by
  cases es with
  | nil => cases h
  | cons x es =>
    show subP x x :: _ = _
    have e : subP x x = (0, 0) := Prod.ext (Int.sub_self _) (Int.sub_self _)
    rw [e] <;> rfl
theorem sub_none {M M' : Mm} (s : Sub M M') {a : Addr} (h : M' a = none) : M a = none := by
  cases e : M a with
  | none => rfl
  | some c =>
    rw [s _ _ e] at h
    cases h
theorem CgOk.w {c : Cg} (h : CgOk c) : c.1.natAbs < 2 ^ 200000 ∧ c.2.1.natAbs < 2 ^ 200000 ∧ c.2.2.natAbs < 2 ^ 200000 := by
  have p : (2 : Nat) ^ 2000 ≤ 2 ^ 200000 := Nat.pow_le_pow_right (by decide) (by decide)
  exact ⟨Nat.lt_of_lt_of_le h.a p, Nat.lt_of_lt_of_le h.b p, Nat.lt_of_lt_of_le h.m p⟩
theorem sm_w {v : Pt} (h : SmP (2 ^ 60) v) : v.1.natAbs < 2 ^ 200000 ∧ v.2.natAbs < 2 ^ 200000 := by
  have p : (2 : Nat) ^ 60 < 2 ^ 200000 := Nat.pow_lt_pow_right (by decide) (by decide)
  exact ⟨Nat.lt_of_le_of_lt h.1 p, Nat.lt_of_le_of_lt h.2 p⟩
end Wk
namespace Wk
open PySem PySem.Spec PyProof.Rows L2 Evl
theorem Bd.sub {B : Int} {ps qs : List Pt} (h : Bd B ps) (s : ∀ q ∈ qs, q ∈ ps) : Bd B qs := fun q hq => h q (s q hq)
theorem polyB_of {B : Int} {ps : List Pt} (h3 : 3 ≤ ps.length) (h8 : ps.length ≤ 8) (h : Bd B ps) (hB : 2 * B ≤ 2 ^ 49) (h0 : 0 ≤ B) : PolyB ps where
  l3 := h3
  l8 := h8
  bp := h.mono (by
    have p : (2 : Int) ^ 49 ≤ 2 ^ 56 := by decide
    omega)
  bs := bd_sticks h hB
/-- a closed chain of the same sticks in any order -/
theorem polyB_clos {A D : Nat} {ss : List Pt} {p : Pt} {ps : List Pt} (h3 : 3 ≤ ps.length) (h8 : ps.length ≤ 8) (hp : ss.Perm (sticksP ps)) (hD : Bd D (sticksP ps)) (hA : p.1.natAbs ≤ A ∧ p.2.natAbs ≤ A) (h1 : A + 8 * D ≤ 2 ^ 56) (h2 : D ≤ 2 ^ 49) : PolyB (closP p ss.dropLast) := by
  have l : ss.length = ps.length := by rw [hp.length_eq, sticksP_length]
  have ne : ss ≠ [] := fun e => by
    rw [e] at l
    simp at l
    omega
  have es : sticksP (closP p ss.dropLast) = ss := sticks_clos ne (by rw [sumP_perm hp, sum_sticks]) p
  have bd : Bd D ss := fun s hs => hD s (hp.mem_iff.mp hs)
  have lc : (closP p ss.dropLast).length = ps.length := by
    rw [closP_len, List.length_dropLast, l]
    omega
  refine ⟨by omega, by omega, fun q hq => ?_, ?_⟩
  · have z := closP_small (A := A) (D := D) (ss := ss.dropLast) (p := p) hA (fun s hs => by
      have q := bd s (List.dropLast_subset _ hs)
      omega) q hq
    have l2 : ss.dropLast.length ≤ 8 := by
      rw [List.length_dropLast]
      omega
    have m : ss.dropLast.length * D ≤ 8 * D := Nat.mul_le_mul_right D l2
    have p56 : (2 : Int) ^ 56 = 72057594037927936 := by decide
    have p56n : (2 : Nat) ^ 56 = 72057594037927936 := by decide
    rw [p56n] at h1
    rw [p56]
    omega
  · rw [es]
    refine bd.mono ?_
    have p49 : (2 : Int) ^ 49 = 562949953421312 := by decide
    have p49n : (2 : Nat) ^ 49 = 562949953421312 := by decide
    rw [p49n] at h2
    rw [p49]
    omega
/-- the points of a list of them in any order -/
def unP2 : Dt → Pt
  | .tup [.int x, .int y] => (x, y)
  | _ => (0, 0)
theorem perm_pts {ys : List Dt} {ss : List Pt} (h : ys.Perm (ss.map P2)) : ∃ qs : List Pt, ys = qs.map P2 ∧ qs.Perm ss := by
  refine ⟨ys.map unP2, ?_, ?_⟩
  · have key : ∀ l : List Dt, (∀ y ∈ l, ∃ p, y = P2 p) → l = (l.map unP2).map P2 := fun l => by
      induction l with
      | nil => intro _; rfl
      | cons y l ih =>
        intro hl
        obtain ⟨p, rfl⟩ := hl y List.mem_cons_self
        rw [List.map_cons, List.map_cons, ← ih fun z hz => hl z (List.mem_cons_of_mem _ hz)] <;> rfl
    refine key ys fun y hy => ?_
    obtain ⟨p, _, rfl⟩ := List.mem_map.mp (h.mem_iff.mp hy)
    exact ⟨p, rfl⟩
  · have q := h.map unP2
    rw [List.map_map] at q
    have e : (unP2 ∘ P2) = id := by
      funext p
      rfl
    rw [e, List.map_id] at q
    exact q
theorem amt {m d : Int} (h1 : -1000000 ≤ m) (h2 : m ≤ 1000000) (h3 : -4000000000 ≤ d) (h4 : d ≤ 4000000000) : -4000000000000000 ≤ m * d ∧ m * d ≤ 4000000000000000 ∧ m.natAbs < 2 ^ 200000 ∧ d.natAbs < 2 ^ 200000 := by
  have a : (m * d).natAbs ≤ 1000000 * 4000000000 := by
    rw [Int.natAbs_mul]
    exact Nat.mul_le_mul (by omega) (by omega)
  have w : (2 : Nat) ^ 60 < 2 ^ 200000 := Nat.pow_lt_pow_right (by decide) (by decide)
  have p : (2 : Nat) ^ 60 = 1152921504606846976 := by decide
  rw [p] at w
  refine ⟨by omega, by omega, Nat.lt_of_le_of_lt (m := 1152921504606846976) (by omega) w, Nat.lt_of_le_of_lt (m := 1152921504606846976) (by omega) w⟩
def mvP (u v : Int) (ps : List Pt) : List Pt := ps.map fun p => (p.1 + u, p.2 + v)
theorem mvP_len {u v : Int} {ps : List Pt} : (mvP u v ps).length = ps.length := List.length_map _
theorem mvP_get {u v : Int} {ps : List Pt} {i : Nat} {p : Pt} (h : ps[i]? = some p) : (mvP u v ps)[i]? = some (p.1 + u, p.2 + v) := by
  unfold mvP
  rw [List.getElem?_map, h] <;> rfl
end Wk
namespace Wk
open PySem PySem.Spec PyProof.Rows L2 Evl
theorem mem_nil {vs : List Pt} : Mem vs (0, 0) := mem_zero.mp (mem_of List.mem_cons_self)
theorem mem_sub {vs : List Pt} {t u : Pt} (a : Mem vs t) (b : Mem vs u) : Mem vs (subP t u) := by
  have z := mem_lin 1 (-1) a b
  have e : subP t u = (1 * t.1 + -1 * u.1, 1 * t.2 + -1 * u.2) := by
    unfold subP
    exact Prod.ext (by dsimp only; omega) (by dsimp only; omega)
  rw [e]
  exact z
theorem mem_head {es : List Pt} {e : Pt} (h : e ∈ es) : Mem (diffP es) (subP e (ptD es 0)) := by
  have l : 0 < es.length := List.length_pos_of_mem h
  have m : subP e (ptD es 0) ∈ (0, 0) :: diffP es := by
    rw [← diffs_all l]
    exact List.mem_map.mpr ⟨e, h, rfl⟩
  exact mem_zero.mp (mem_of m)
theorem mem_diff {es : List Pt} {e f : Pt} (h : e ∈ es) (h2 : f ∈ es) : Mem (diffP es) (subP e f) := by
  have z := mem_sub (mem_head h) (mem_head h2)
  have q : subP (subP e (ptD es 0)) (subP f (ptD es 0)) = subP e f := by
    unfold subP
    exact Prod.ext (by dsimp only; omega) (by dsimp only; omega)
  rwa [q] at z
theorem mem_span {ws : List Pt} : ∀ {cs : List Int} {vs : List Pt}, (∀ v ∈ vs, Mem ws v) → Mem ws (dotP cs vs)
  | [], _, _ => mem_nil
  | _ :: _, [], _ => mem_nil
  | c :: cs, v :: vs, h => by
    have ih := mem_span (cs := cs) fun x hx => h x (List.mem_cons_of_mem _ hx)
    have z := mem_lin c 1 (h v List.mem_cons_self) ih
    have e : dotP (c :: cs) (v :: vs) = (c * v.1 + 1 * (dotP cs vs).1, c * v.2 + 1 * (dotP cs vs).2) := by
      show (c * v.1 + (dotP cs vs).1, c * v.2 + (dotP cs vs).2) = _
      rw [Int.one_mul, Int.one_mul]
    rw [e]
    exact z
theorem mem_perm {es fs : List Pt} (p : es.Perm fs) {t : Pt} (h : Mem (diffP es) t) : Mem (diffP fs) t := by
  obtain ⟨cs, _, rfl⟩ := h
  refine mem_span fun v hv => ?_
  obtain ⟨e, he, f, hf, rfl⟩ := diff_mem hv
  exact mem_diff (p.mem_iff.mp he) (p.mem_iff.mp hf)
/-- reached by k flips -/
structure Rch (ps : List Pt) (k : Nat) (qs : List Pt) : Prop where
  len : qs.length = ps.length
  pm : (sticksP qs).Perm (sticksP ps)
  mo : Mem (diffP (sticksP ps)) (subP (ptD qs 0) (ptD ps 0))
  bd : (ptD qs 0).1.natAbs ≤ 1000000000 + k * 4000000000 ∧ (ptD qs 0).2.natAbs ≤ 1000000000 + k * 4000000000
theorem Rch.start {ps : List Pt} (h : 0 < ps.length) (hb : Bd 1000000000 ps) : Rch ps 0 ps where
  len := rfl
  pm := List.Perm.refl _
  mo := by
    have e : subP (ptD ps 0) (ptD ps 0) = (0, 0) := Prod.ext (Int.sub_self _) (Int.sub_self _)
    rw [e]
    exact mem_nil
  bd := by
    have := hb _ (ptD_mem h)
    omega
/-- one expression with two promises: the one that serves -/
def tEither (t u : TE) : TE := fun σ H Q => t σ H Q ∨ u σ H Q
theorem pe_either {X : Cx} {e : Expr} {t u : TE} (a : PE X e t) (b : PE X e u) : PE X e (tEither t u) := ⟨fun pins s σ H Q I h => h.elim (a.run pins s σ H Q I) (b.run pins s σ H Q I)⟩
section
variable {K : PySem.W.Frag} {ρ : Rho} {M : Mm} {Φ : Dt → Mm → Prop} {t u : TE}
theorem ex_eitherL (h : EX K t ρ M Φ) : EX K (tEither t u) ρ M Φ := fun B H H1 σ o s Q q => .inl (h B H H1 σ o s Q q)
theorem ex_eitherR (h : EX K u ρ M Φ) : EX K (tEither t u) ρ M Φ := fun B H H1 σ o s Q q => .inr (h B H H1 σ o s Q q)
end
end Wk
namespace Wk
open PySem PySem.Spec PyProof.Rows L2 Evl
theorem cx_minI {K : PySem.W.Frag} {M : Mm} {Φ : Dt → Mm → Prop} {ns : List Int} (h : 0 < ns.length) (k : ∀ m, m ∈ ns → (∀ y ∈ ns, m ≤ y) → Φ (.int m) M) : CX K (rMin K) [.lst (ns.map Dt.int)] M Φ := fun B H H1 vs o r Q q => by
  cases r with
  | cons r rr =>
    cases rr
    obtain ⟨a, us, rfl, h1, r1⟩ := r.lst_inv
    have e : us = ns.map V.int := by
      have key : ∀ {us : List V} {ns : List Int}, RpAll K H us (ns.map Dt.int) → us = ns.map V.int := by
        intro us ns
        induction ns generalizing us with
        | nil => intro r; cases r; rfl
        | cons n ns ih =>
          intro r
          cases r with
          | cons r rr => rw [r.int_inv, ih rr] <;> rfl
      exact key r1
    subst e
    exact ⟨a, ns, rfl, sq_of (o.h _ _ h1), h, fun m hm hl => q _ _ M H H1 (k m hm hl) o (Ex.refl H) (.int m)⟩
end Wk
namespace Wk
open PySem L2 Evl
local macro_rules | `(tactic| walk_at "w1") => `(tactic| first
  | ((with_reducible refine' ex_var ?hv ?_); (case hv => rfl))
  | ((with_reducible refine' rx_ix_tup ?hv ?_); (case hv => rfl))
  | ((with_reducible refine' rx_ix_lst ?hv ?_); (case hv => rfl))
  | ((with_reducible refine' gx_tup ?hv ?_); (case hv => rfl))
  | ((with_reducible refine' rx_ix_cell ?hm ?hv ?_); (case hm => first | assumption | exact put_same); (case hv => rfl))
  | ((with_reducible refine' cx_len_cell ?hm ?_); (case hm => first | assumption | exact put_same))
  | ((with_reducible refine' rx_Ii ?hc ?_); (case hc => first | assumption | exact ⟨by decide, by decide +kernel⟩ | (show (0 : Int) < _; omega) | (show (0 : Int) < _; decide)))
  | ((with_reducible refine' rx_mul_int ?hc ?_); (case hc => first | assumption | exact cmul_l (by decide) (by decide) | exact cmul_r (by decide) (by decide)))
  | with_reducible refine ex_int ?_
  | with_reducible refine ex_str ?_
  | with_reducible refine ex_bl ?_
  | with_reducible refine ex_non ?_
  | with_reducible refine ex_raw ?_
  | with_reducible refine ex_op ?_
  | with_reducible refine ex_un ?_
  | with_reducible refine ex_cb ?_
  | with_reducible refine ex_tup ?_
  | with_reducible refine ex_sl ?_
  | with_reducible refine ox_none ?_
  | with_reducible refine ox_some ?_
  | with_reducible refine ax_nil ?_
  | with_reducible refine ax_cons ?_
  | with_reducible refine ex_if ?_
  | with_reducible refine ex_andV ?_
  | with_reducible refine ex_orV ?_
  | with_reducible refine ex_notV ?_
  | with_reducible refine ex_m0 ?_
  | with_reducible refine ex_m1 ?_
  | with_reducible refine tx_test ?_
  | with_reducible refine tx_B ?_
  | with_reducible refine tx_and ?_
  | with_reducible refine tx_or ?_
  | with_reducible refine tx_not ?_
  | with_reducible refine tx_yes ?_
  | with_reducible refine sx_seq ?_
  | with_reducible refine sx_set ?_
  | with_reducible refine sx_ret ?_
  | with_reducible refine sx_drop ?_
  | with_reducible refine sx_next ?_
  | with_reducible refine sx_if ?_
  | with_reducible refine sx_retN ?_
  | with_reducible refine sx_asg ?_
  | with_reducible refine sx_par ?_
  | with_reducible refine gx_name ?_
  | with_reducible refine gxs_cons ?_
  | with_reducible refine gxs_nil ?_
  | with_reducible refine rx_add_int ?_
  | with_reducible refine rx_I0i ?_
  | with_reducible refine rx_I0b ?_
  | with_reducible refine rx_eq_int ?_
  | with_reducible refine rx_ne_int ?_
  | with_reducible refine rx_eq_str ?_
  | with_reducible refine rx_ne_str ?_
  | with_reducible refine rx_eq_bl ?_
  | with_reducible refine rx_ne_bl ?_
  | with_reducible refine lx_tup ?_
  | with_reducible refine lx_lst ?_
  | with_reducible refine cx_len_tup ?_
  | with_reducible refine cx_len_lst ?_
  | with_reducible refine cx_len_frl ?_
  | with_reducible refine cx_max2 ?_
  | with_reducible refine ux_neg ?_
  | with_reducible refine cx_list_lst ?_
  | with_reducible refine cx_tuple_lst ?_
  | with_reducible refine cx_tuple_tup ?_
  | with_reducible refine mx_isdigit ?_
  | with_reducible refine mx_startswith ?_
  | with_reducible refine ix_any ?_
  | with_reducible refine And.intro (Nat.le_of_ble_eq_true rfl) ?_
  | refine Exists.intro _ (And.intro rfl ?_))
local macro_rules | `(tactic| walk_at "w") => `(tactic| repeat (walk_at "w1"))
section
variable {P : Program} {w : World} {K : PySem.W.Frag} {mg : Str → Option Value} {base : Heap} {C WE BP BT NC BJ S BW TM TF BS UN NP UF DP DF J UR SC JC CG RB RS FJ f g : Addr} {fd : FuncData}
theorem ok__law_source {f : Addr} {fd : FuncData} (F : Fun K "_law_source" "_law_source" s__law_source f fd) (T : Tx K mg C)  : FnOk P w K mg base CX0 1 f fd ["script", "index"] (spSource K) := by
  refine F.ok sc__law_source (spD_len (n := 2) (fun x ds M h => by rw [h.1] <;> rfl)) (fun cdv A outer s H vs Q E hr h => ⟨_, (pss_cons (ps_set (i := 2) sc__law_source.nd rfl (Or.inl rfl) pe_int) (pss_cons (ps_if (pt_cmpR op_lt (pv 1) (pe_callB call_lenA (by rfl) T.n_len (by decide +kernel) (pa_cons (pv 0) pa_nil)) (nomark _)) (pss_one (ps_set (i := 2) sc__law_source.nd rfl (Or.inl rfl) (pe_ix ix_seq (pv 0) (pv 1) (fun _ _ => rfl)))) pss_nil) (pss_one (ps_ret (pe_lst (pa_cons (pe_callB (call_max2 rfl) (by rfl) T.n_max (by decide +kernel) (pa_cons pe_int (pa_cons (pe_op op_sub (pv 2) (pe_op op_powW pe_int pe_int)) pa_nil))) (pa_cons (pe_op op_addA (pe_op op_mod (pv 2) (pe_op op_addA (pe_op op_powW pe_int pe_int) pe_int)) (pe_op op_mulA pe_int (pv 1))) (pa_cons pe_int pa_nil)))))))), enter h ?_⟩)
  try dsimp only [cxOf, Cx.nox, Cx.wish]
  rintro ⟨ns, i⟩ ds M ⟨rfl, h0, h1⟩
  dsimp only at *
  refine sx_seq (sx_set (ex_int ?_))
  refine sx_seqc (fun ρ' M' => M' = M ∧ ∃ c : Int, ρ' = [some (.frl (ns.map Dt.int)), some (.int i), some (.int c)]) ?_ ?_
  · walk_at "w"
    refine ⟨fun h => ?_, fun h => ?_⟩
    · have hi := dT h
      rw [List.length_map] at hi
      have e : (ns.map Dt.int)[i.toNat]? = some (.int ns[i.toNat]!) := by
        rw [List.getElem?_map, List.getElem?_eq_getElem (show i.toNat < ns.length by omega), getElem!_pos ns i.toNat (by omega)] <;> rfl
      have e2 : i = (i.toNat : Int) := by omega
      walk_at "w"
      refine rx_ix_frl (d := .int ns[i.toNat]!) ?_ ?_
      · rw [e2]
        exact atI_at e
      · exact ⟨rfl, _, rfl⟩
    · walk_at "w"
      exact ⟨rfl, 0, rfl⟩
  · rintro ρ' M' ⟨rfl, c, rfl⟩
    refine sx_ret (ex_lstC ?_)
    walk_at "w"
    refine fun a ha => ⟨_, Sub.refl _, a, _, rfl, ha, rfl, _, _, _, rfl, ?_, ?_, ?_, Int.le_refl 0, Int.le_refl 0⟩
    · split <;> omega
    · have h := Int.emod_nonneg c (show (10 ^ Int.toNat 37 + 43 : Int) ≠ 0 by decide)
      omega
    · have h := Int.emod_lt_of_pos c (show (0 : Int) < 10 ^ Int.toNat 37 + 43 by decide)
      have h2 : (10 ^ Int.toNat 37 + 43 : Int) < 2 ^ 199 := by decide
      have h3 : (2 : Int) ^ 199 + 129970900 < 2 ^ 200 := by decide
      omega
end
end Wk
namespace Wk
open PySem L2 Evl
local macro_rules | `(tactic| walk_at "w1") => `(tactic| first
  | ((with_reducible refine' ex_var ?hv ?_); (case hv => rfl))
  | ((with_reducible refine' rx_ix_tup ?hv ?_); (case hv => rfl))
  | ((with_reducible refine' rx_ix_lst ?hv ?_); (case hv => rfl))
  | ((with_reducible refine' gx_tup ?hv ?_); (case hv => rfl))
  | ((with_reducible refine' rx_ix_cell ?hm ?hv ?_); (case hm => first | assumption | exact put_same); (case hv => rfl))
  | ((with_reducible refine' cx_len_cell ?hm ?_); (case hm => first | assumption | exact put_same))
  | ((with_reducible refine' rx_Ii ?hc ?_); (case hc => first | assumption | exact ⟨by decide, by decide +kernel⟩ | (show (0 : Int) < _; omega) | (show (0 : Int) < _; decide)))
  | ((with_reducible refine' rx_mul_int ?hc ?_); (case hc => first | assumption | exact cmul_l (by decide) (by decide) | exact cmul_r (by decide) (by decide)))
  | with_reducible refine ex_int ?_
  | with_reducible refine ex_str ?_
  | with_reducible refine ex_bl ?_
  | with_reducible refine ex_non ?_
  | with_reducible refine ex_raw ?_
  | with_reducible refine ex_op ?_
  | with_reducible refine ex_un ?_
  | with_reducible refine ex_cb ?_
  | with_reducible refine ex_tup ?_
  | with_reducible refine ex_sl ?_
  | with_reducible refine ox_none ?_
  | with_reducible refine ox_some ?_
  | with_reducible refine ax_nil ?_
  | with_reducible refine ax_cons ?_
  | with_reducible refine ex_if ?_
  | with_reducible refine ex_andV ?_
  | with_reducible refine ex_orV ?_
  | with_reducible refine ex_notV ?_
  | with_reducible refine ex_m0 ?_
  | with_reducible refine ex_m1 ?_
  | with_reducible refine tx_test ?_
  | with_reducible refine tx_B ?_
  | with_reducible refine tx_and ?_
  | with_reducible refine tx_or ?_
  | with_reducible refine tx_not ?_
  | with_reducible refine tx_yes ?_
  | with_reducible refine sx_seq ?_
  | with_reducible refine sx_set ?_
  | with_reducible refine sx_ret ?_
  | with_reducible refine sx_drop ?_
  | with_reducible refine sx_next ?_
  | with_reducible refine sx_if ?_
  | with_reducible refine sx_retN ?_
  | with_reducible refine sx_asg ?_
  | with_reducible refine sx_par ?_
  | with_reducible refine gx_name ?_
  | with_reducible refine gxs_cons ?_
  | with_reducible refine gxs_nil ?_
  | with_reducible refine rx_add_int ?_
  | with_reducible refine rx_I0i ?_
  | with_reducible refine rx_I0b ?_
  | with_reducible refine rx_eq_int ?_
  | with_reducible refine rx_ne_int ?_
  | with_reducible refine rx_eq_str ?_
  | with_reducible refine rx_ne_str ?_
  | with_reducible refine rx_eq_bl ?_
  | with_reducible refine rx_ne_bl ?_
  | with_reducible refine lx_tup ?_
  | with_reducible refine lx_lst ?_
  | with_reducible refine cx_len_tup ?_
  | with_reducible refine cx_len_lst ?_
  | with_reducible refine cx_len_frl ?_
  | with_reducible refine cx_max2 ?_
  | with_reducible refine ux_neg ?_
  | with_reducible refine cx_list_lst ?_
  | with_reducible refine cx_tuple_lst ?_
  | with_reducible refine cx_tuple_tup ?_
  | with_reducible refine mx_isdigit ?_
  | with_reducible refine mx_startswith ?_
  | with_reducible refine ix_any ?_
  | with_reducible refine And.intro (Nat.le_of_ble_eq_true rfl) ?_
  | refine Exists.intro _ (And.intro rfl ?_))
local macro_rules | `(tactic| walk_at "w") => `(tactic| repeat (walk_at "w1"))
section
variable {P : Program} {w : World} {K : PySem.W.Frag} {mg : Str → Option Value} {base : Heap} {C WE BP BT NC BJ S BW TM TF BS UN NP UF DP DF J UR SC JC CG RB RS FJ f g : Addr} {fd : FuncData}
theorem ok__law_draw {f : Addr} {fd : FuncData} (F : Fun K "_law_draw" "_law_draw" s__law_draw f fd) (T : Tx K mg C)  : FnOk P w K mg base CX0 1 f fd ["source", "bound"] (spDraw K) := by
  refine F.ok sc__law_draw (spD_len (n := 2) (fun x ds M h => by rw [h.1] <;> rfl)) (fun cdv A outer s H vs Q E hr h => ⟨_, (pss_cons (ps_if (pt_cmpR op_gt (pe_ix ix_seq (pv 0) pe_int (fun _ _ => rfl)) pe_int (nomark _)) (pss_cons (ps_set (i := 2) sc__law_draw.nd rfl (Or.inl rfl) (pe_op op_mod (pe_ix ix_seq (pv 0) pe_int (fun _ _ => rfl)) (pv 1))) (pss_cons (ps_asg (pe_op op_fdivW (pe_ix ix_seq (pv 0) pe_int (fun _ _ => rfl)) (pv 1)) (pg_sub (pv 0) pe_int set_list)) (pss_one (ps_ret (pv 2))))) pss_nil) (pss_cons (ps_asg (pe_op op_addA (pe_ix ix_seq (pv 0) pe_int (fun _ _ => rfl)) pe_int) (pg_sub (pv 0) pe_int set_list)) (pss_cons (ps_set (i := 3) sc__law_draw.nd rfl (Or.inl rfl) (pe_op op_mod (pe_op op_powW (pe_op op_addA (pe_ix ix_seq (pv 0) pe_int (fun _ _ => rfl)) (pe_op op_mulA pe_int (pe_ix ix_seq (pv 0) pe_int (fun _ _ => rfl)))) pe_int) (pe_op op_addA (pe_op op_powW pe_int pe_int) pe_int))) (pss_cons (ps_set (i := 3) sc__law_draw.nd rfl (Or.inl rfl) (pe_op op_mod (pe_op op_powW (pe_op op_addA (pv 3) (pe_op op_mulA pe_int (pe_ix ix_seq (pv 0) pe_int (fun _ _ => rfl)))) pe_int) (pe_op op_addA (pe_op op_powW pe_int pe_int) pe_int))) (pss_one (ps_ret (pe_op op_mod (pe_op op_fdivW (pv 3) pe_int) (pv 1)))))))), enter h ?_⟩)
  try dsimp only [cxOf, Cx.nox, Cx.wish]
  rintro ⟨a, b, n⟩ ds M ⟨rfl, ⟨c, hm, x, y, z, rfl, h0, h1, h2, h3, h4⟩, hb, hb2, hn⟩
  dsimp only at *
  walk_at "w"
  refine ⟨fun h => ?_, fun h => ?_⟩
  · have hx := dT h
    walk_at "w"
    refine rx_Ii (cdiv_of hb (abs_lt (by omega) hb2) (by decide) (by decide)) ?_
    refine gx_sub ?_
    walk_at "w"
    refine ⟨a, _, 0, 0, rfl, rfl, hm, rfl, ?_⟩
    walk_at "w"
    exact ⟨_, Sub.refl _, _, _, rfl, Int.emod_nonneg _ (by omega), Int.emod_lt_of_pos _ hb, rfl, _, _, _, rfl, Int.ediv_nonneg h0 (by omega), h1, h2, h3, by omega⟩
  · walk_at "w"
    refine gx_sub ?_
    walk_at "w"
    refine ⟨a, _, 2, 2, rfl, rfl, hm, rfl, ?_⟩
    refine sx_seq (sx_set (ex_cut (fun d M' => M' = put M a (.lst [.int x, .int y, .int (z + 1)]) ∧ ∃ m : Int, d = .int m ∧ 0 ≤ m ∧ m < 2 ^ 200) ?_ ?_))
    · walk_at "w"
      refine rx_Ii (cpow_of (n := 300) (by decide) (abs_lt ?_ ?_) (by decide) (by decide)) ?_
      · omega
      · omega
      · walk_at "w"
        refine ⟨rfl, _, rfl, Int.emod_nonneg _ (by decide), Int.lt_trans (Int.emod_lt_of_pos _ (by decide)) (by decide)⟩
    · rintro d M' ⟨rfl, m, rfl, m0, m1⟩
      refine sx_seq (sx_set (ex_cut (fun d M' => M' = put M a (.lst [.int x, .int y, .int (z + 1)]) ∧ ∃ m : Int, d = .int m) ?_ ?_))
      · walk_at "w"
        refine rx_Ii (cpow_of (n := 300) (by decide) (abs_lt ?_ ?_) (by decide) (by decide)) ?_
        · omega
        · omega
        · walk_at "w"
          exact ⟨rfl, _, rfl⟩
      · rintro d M' ⟨rfl, m', rfl⟩
        walk_at "w"
        exact ⟨_, Sub.refl _, _, _, rfl, Int.emod_nonneg _ (by omega), Int.emod_lt_of_pos _ hb, rfl, x, y, z + 1, rfl, h0, h1, h2, by omega, by omega⟩
end
end Wk
namespace Wk
open PySem L2 Evl
local macro_rules | `(tactic| walk_at "w1") => `(tactic| first
  | ((with_reducible refine' ex_var ?hv ?_); (case hv => rfl))
  | ((with_reducible refine' rx_ix_tup ?hv ?_); (case hv => rfl))
  | ((with_reducible refine' rx_ix_lst ?hv ?_); (case hv => rfl))
  | ((with_reducible refine' gx_tup ?hv ?_); (case hv => rfl))
  | ((with_reducible refine' rx_ix_cell ?hm ?hv ?_); (case hm => first | assumption | exact put_same); (case hv => rfl))
  | ((with_reducible refine' cx_len_cell ?hm ?_); (case hm => first | assumption | exact put_same))
  | ((with_reducible refine' rx_Ii ?hc ?_); (case hc => first | assumption | exact ⟨by decide, by decide +kernel⟩ | (show (0 : Int) < _; omega) | (show (0 : Int) < _; decide)))
  | ((with_reducible refine' rx_mul_int ?hc ?_); (case hc => first | assumption | exact cmul_l (by decide) (by decide) | exact cmul_r (by decide) (by decide)))
  | with_reducible refine ex_int ?_
  | with_reducible refine ex_str ?_
  | with_reducible refine ex_bl ?_
  | with_reducible refine ex_non ?_
  | with_reducible refine ex_raw ?_
  | with_reducible refine ex_op ?_
  | with_reducible refine ex_un ?_
  | with_reducible refine ex_cb ?_
  | with_reducible refine ex_tup ?_
  | with_reducible refine ex_sl ?_
  | with_reducible refine ox_none ?_
  | with_reducible refine ox_some ?_
  | with_reducible refine ax_nil ?_
  | with_reducible refine ax_cons ?_
  | with_reducible refine ex_if ?_
  | with_reducible refine ex_andV ?_
  | with_reducible refine ex_orV ?_
  | with_reducible refine ex_notV ?_
  | with_reducible refine ex_m0 ?_
  | with_reducible refine ex_m1 ?_
  | with_reducible refine tx_test ?_
  | with_reducible refine tx_B ?_
  | with_reducible refine tx_and ?_
  | with_reducible refine tx_or ?_
  | with_reducible refine tx_not ?_
  | with_reducible refine tx_yes ?_
  | with_reducible refine sx_seq ?_
  | with_reducible refine sx_set ?_
  | with_reducible refine sx_ret ?_
  | with_reducible refine sx_drop ?_
  | with_reducible refine sx_next ?_
  | with_reducible refine sx_if ?_
  | with_reducible refine sx_retN ?_
  | with_reducible refine sx_asg ?_
  | with_reducible refine sx_par ?_
  | with_reducible refine gx_name ?_
  | with_reducible refine gxs_cons ?_
  | with_reducible refine gxs_nil ?_
  | with_reducible refine rx_add_int ?_
  | with_reducible refine rx_I0i ?_
  | with_reducible refine rx_I0b ?_
  | with_reducible refine rx_eq_int ?_
  | with_reducible refine rx_ne_int ?_
  | with_reducible refine rx_eq_str ?_
  | with_reducible refine rx_ne_str ?_
  | with_reducible refine rx_eq_bl ?_
  | with_reducible refine rx_ne_bl ?_
  | with_reducible refine lx_tup ?_
  | with_reducible refine lx_lst ?_
  | with_reducible refine cx_len_tup ?_
  | with_reducible refine cx_len_lst ?_
  | with_reducible refine cx_len_frl ?_
  | with_reducible refine cx_max2 ?_
  | with_reducible refine ux_neg ?_
  | with_reducible refine cx_list_lst ?_
  | with_reducible refine cx_tuple_lst ?_
  | with_reducible refine cx_tuple_tup ?_
  | with_reducible refine mx_isdigit ?_
  | with_reducible refine mx_startswith ?_
  | with_reducible refine ix_any ?_
  | with_reducible refine And.intro (Nat.le_of_ble_eq_true rfl) ?_
  | refine Exists.intro _ (And.intro rfl ?_))
local macro_rules | `(tactic| walk_at "w") => `(tactic| repeat (walk_at "w1"))
section
variable {P : Program} {w : World} {K : PySem.W.Frag} {mg : Str → Option Value} {base : Heap} {C WE BP BT NC BJ S BW TM TF BS UN NP UF DP DF J UR SC JC CG RB RS FJ f g : Addr} {fd : FuncData}
theorem ok__law_closed {f : Addr} {fd : FuncData} (F : Fun K "_law_closed" "_law_closed" s__law_closed f fd) (T : Tx K mg C)  : FnOk P w K mg base CX0 1 f fd ["start", "sticks"] (spClosed K) := by
  refine F.ok sc__law_closed (spD_len (n := 2) (fun x ds M h => by rw [h.1] <;> rfl)) (fun cdv A outer s H vs Q E hr h => ⟨_, (pss_cons (ps_set (i := 2) sc__law_closed.nd rfl (Or.inl rfl) (pe_lst (pa_cons (pv 0) pa_nil))) (pss_cons (ps_for PassesOwn.never rfl (pi_any (pe_slice sl_any (pv 1) po_none (po_some (pe_un un_neg pe_int)))) (pg_tup (by rfl) (pgs_cons (pg_name (i := 3) sc__law_closed.nd rfl (Or.inl rfl)) (pgs_cons (pg_name (i := 4) sc__law_closed.nd rfl (Or.inl rfl)) pgs_nil))) (pss_one (ps_expr (pe_bm PySem.F.plainAttrs_list PySem.F.slot_list_append PySem.F.type_list_append mt_append (pv 2) (pa_cons (pe_tup (pa_cons (pe_op op_addA (pe_ix ix_seq (pe_ix ix_seq (pv 2) (pe_un un_neg pe_int) (fun _ _ => rfl)) pe_int (fun _ _ => rfl)) (pv 3)) (pa_cons (pe_op op_addA (pe_ix ix_seq (pe_ix ix_seq (pv 2) (pe_un un_neg pe_int) (fun _ _ => rfl)) pe_int (fun _ _ => rfl)) (pv 4)) pa_nil))) pa_nil))))) (pss_one (ps_ret (pe_callTy call_tuple_of (by rfl) T.n_tuple (by decide +kernel) (pa_cons (pv 2) pa_nil)))))), enter h ?_⟩)
  try dsimp only [cxOf, Cx.nox, Cx.wish]
  rintro ⟨p0, sts, B⟩ ds M ⟨rfl, h1, h20, hb, hB⟩
  dsimp only at *
  refine sx_seq (sx_set (ex_lstC ?_))
  walk_at "w"
  refine fun a ha => ?_
  refine sx_seqc (fun ρ' M' => ∃ qs x y, ρ' = [some (P2 p0), some (Lps sts), some (.raw (.ref a)), x, y] ∧ M' = put M a (.lst (qs.map P2)) ∧ qs.length = sts.length ∧ Bd (30 * B) qs) (sx_for ?_) ?_
  · walk_at "w"
    refine ⟨_, _, .inl ⟨.inl rfl, rfl⟩, fun i ρ' M' => ∃ qs x y, ρ' = [some (P2 p0), some (Lps sts), some (.raw (.ref a)), x, y] ∧ M' = put M a (.lst (qs.map P2)) ∧ qs.length = i + 1 ∧ Bd ((i + 1) * B) qs, ?_, fun _ _ _ _ _ => trivial, ?_, ?_⟩
    · exact ⟨[p0], _, _, rfl, rfl, rfl, Bd.one (by have q := hb p0 List.mem_cons_self; simp; exact q)⟩
    · rintro i d ρ' M' hi ⟨qs, x, y, rfl, rfl, hl, hq⟩
      rw [cutD_init, ← List.map_dropLast, List.getElem?_map] at hi
      obtain ⟨p, hp, rfl⟩ := Option.map_eq_some_iff.mp hi
      have hlt := (List.getElem?_eq_some_iff.mp hp).1
      rw [List.length_dropLast] at hlt
      have hpb := hb p (List.mem_cons_of_mem _ (List.dropLast_subset _ (List.mem_of_getElem? hp)))
      have hq0 : 0 < qs.length := by omega
      have hlb := hq _ (ptD_mem (i := qs.length - 1) (by omega))
      walk_at "w"
      refine ex_append (a := a) ?_
      walk_at "w"
      refine ⟨rfl, _, put_same, ?_⟩
      walk_at "w"
      refine rx_ix_cell put_same (atI_lst hq0) ?_
      walk_at "w"
      refine rx_ix_cell put_same (atI_lst hq0) ?_
      walk_at "w"
      refine ⟨P2 (addP (ptD qs (qs.length - 1)) p), _, rfl, put_same, ?_, ?_⟩
      · rw [List.length_map, hl]
        exact Nat.lt_of_le_of_lt (m := 30) (by omega) (by decide)
      · refine ⟨qs ++ [addP (ptD qs (qs.length - 1)) p], _, _, rfl, ?_, ?_, ?_⟩
        · rw [put_put, List.map_append] <;> rfl
        · rw [List.length_append, hl] <;> rfl
        · have e1 : ((i : Int) + 1) * B ≤ (((i + 1 : Nat) : Int) + 1) * B := Int.mul_le_mul_of_nonneg_right (by omega) hB
          have e2 : (((i + 1 : Nat) : Int) + 1) * B = ((i : Int) + 1) * B + B := by
            rw [Int.natCast_add, Int.add_mul _ 1 B, Int.one_mul]
            rfl
          refine (hq.mono e1).append (Bd.one ?_)
          show -_ ≤ (ptD qs (qs.length - 1)).1 + p.1 ∧ _ ≤ _ ∧ _ ≤ (ptD qs (qs.length - 1)).2 + p.2 ∧ _ ≤ _
          rw [e2]
          unfold addP
          dsimp only
          generalize ((i : Int) + 1) * B = D at hlb
          omega
    · rintro ρ' M' ⟨qs, x, y, rfl, rfl, hl, hq⟩
      rw [cutD_init, List.length_dropLast, List.length_map] at hl hq
      refine ⟨qs, _, _, rfl, rfl, by omega, hq.mono ?_⟩
      exact Int.mul_le_mul_of_nonneg_right (by omega) hB
  · rintro ρ' M' ⟨qs, x, y, rfl, rfl, hl, hq⟩
    refine sx_ret (ex_cb ?_)
    walk_at "w"
    refine cx_tuple (.inr ⟨a, rfl, put_same, rfl⟩) ?_
    exact ⟨M, Sub.put (Sub.refl M) ha, rfl, qs, rfl, hl, hq⟩
end
end Wk
namespace Wk
open PySem L2 Evl
local macro_rules | `(tactic| walk_at "w1") => `(tactic| first
  | ((with_reducible refine' ex_var ?hv ?_); (case hv => rfl))
  | ((with_reducible refine' rx_ix_tup ?hv ?_); (case hv => rfl))
  | ((with_reducible refine' rx_ix_lst ?hv ?_); (case hv => rfl))
  | ((with_reducible refine' gx_tup ?hv ?_); (case hv => rfl))
  | ((with_reducible refine' rx_ix_cell ?hm ?hv ?_); (case hm => first | assumption | exact put_same); (case hv => rfl))
  | ((with_reducible refine' cx_len_cell ?hm ?_); (case hm => first | assumption | exact put_same))
  | ((with_reducible refine' rx_Ii ?hc ?_); (case hc => first | assumption | exact ⟨by decide, by decide +kernel⟩ | (show (0 : Int) < _; omega) | (show (0 : Int) < _; decide)))
  | ((with_reducible refine' rx_mul_int ?hc ?_); (case hc => first | assumption | exact cmul_l (by decide) (by decide) | exact cmul_r (by decide) (by decide)))
  | with_reducible refine ex_int ?_
  | with_reducible refine ex_str ?_
  | with_reducible refine ex_bl ?_
  | with_reducible refine ex_non ?_
  | with_reducible refine ex_raw ?_
  | with_reducible refine ex_op ?_
  | with_reducible refine ex_un ?_
  | with_reducible refine ex_cb ?_
  | with_reducible refine ex_tup ?_
  | with_reducible refine ex_sl ?_
  | with_reducible refine ox_none ?_
  | with_reducible refine ox_some ?_
  | with_reducible refine ax_nil ?_
  | with_reducible refine ax_cons ?_
  | with_reducible refine ex_if ?_
  | with_reducible refine ex_andV ?_
  | with_reducible refine ex_orV ?_
  | with_reducible refine ex_notV ?_
  | with_reducible refine ex_m0 ?_
  | with_reducible refine ex_m1 ?_
  | with_reducible refine tx_test ?_
  | with_reducible refine tx_B ?_
  | with_reducible refine tx_and ?_
  | with_reducible refine tx_or ?_
  | with_reducible refine tx_not ?_
  | with_reducible refine tx_yes ?_
  | with_reducible refine sx_seq ?_
  | with_reducible refine sx_set ?_
  | with_reducible refine sx_ret ?_
  | with_reducible refine sx_drop ?_
  | with_reducible refine sx_next ?_
  | with_reducible refine sx_if ?_
  | with_reducible refine sx_retN ?_
  | with_reducible refine sx_asg ?_
  | with_reducible refine sx_par ?_
  | with_reducible refine gx_name ?_
  | with_reducible refine gxs_cons ?_
  | with_reducible refine gxs_nil ?_
  | with_reducible refine rx_add_int ?_
  | with_reducible refine rx_I0i ?_
  | with_reducible refine rx_I0b ?_
  | with_reducible refine rx_eq_int ?_
  | with_reducible refine rx_ne_int ?_
  | with_reducible refine rx_eq_str ?_
  | with_reducible refine rx_ne_str ?_
  | with_reducible refine rx_eq_bl ?_
  | with_reducible refine rx_ne_bl ?_
  | with_reducible refine lx_tup ?_
  | with_reducible refine lx_lst ?_
  | with_reducible refine cx_len_tup ?_
  | with_reducible refine cx_len_lst ?_
  | with_reducible refine cx_len_frl ?_
  | with_reducible refine cx_max2 ?_
  | with_reducible refine ux_neg ?_
  | with_reducible refine cx_list_lst ?_
  | with_reducible refine cx_tuple_lst ?_
  | with_reducible refine cx_tuple_tup ?_
  | with_reducible refine mx_isdigit ?_
  | with_reducible refine mx_startswith ?_
  | with_reducible refine ix_any ?_
  | with_reducible refine And.intro (Nat.le_of_ble_eq_true rfl) ?_
  | refine Exists.intro _ (And.intro rfl ?_))
local macro_rules | `(tactic| walk_at "w") => `(tactic| repeat (walk_at "w1"))
section
variable {P : Program} {w : World} {K : PySem.W.Frag} {mg : Str → Option Value} {base : Heap} {C WE BP BT NC BJ S BW TM TF BS UN NP UF DP DF J UR SC JC CG RB RS FJ f g : Addr} {fd : FuncData}
theorem ok__law_drawn {f : Addr} {fd : FuncData} (F : Fun K "_law_drawn" "_law_drawn" s__law_drawn f fd) (T : Tx K mg C) (c__law_draw : Cal P w K mg base 1 "_law_draw" (spDraw K)) (c__law_closed : Cal P w K mg base 1 "_law_closed" (spClosed K)) : FnOk P w K mg base CX0 2 f fd ["source", "sides"] (spDrawn K) := by
  refine F.ok sc__law_drawn (spD_len (n := 2) (fun x ds M h => by rw [h.1] <;> rfl)) (fun cdv A outer s H vs Q E hr h => ⟨_, (pss_cons (ps_set (i := 2) sc__law_drawn.nd rfl (Or.inl rfl) (pe_c c__law_draw hr (by decide) rfl (pa_cons (pv 0) (pa_cons pe_int pa_nil)))) (pss_cons (ps_set (i := 3) sc__law_drawn.nd rfl (Or.inl rfl) (pe_ix ix_seq (pe_lst (pa_cons pe_int (pa_cons pe_int (pa_cons pe_int (pa_cons pe_int (pa_cons pe_int (pa_cons pe_int (pa_cons (pe_op op_powW pe_int pe_int) (pa_cons pe_int pa_nil))))))))) (pv 2) (fun _ _ => rfl))) (pss_cons (ps_set (i := 4) sc__law_drawn.nd rfl (Or.inl rfl) (pe_tup (pa_cons (pe_op op_sub (pe_c c__law_draw hr (by decide) rfl (pa_cons (pv 0) (pa_cons (pe_op op_addA (pe_op op_mulA pe_int (pv 3)) pe_int) pa_nil))) (pv 3)) (pa_cons (pe_op op_sub (pe_c c__law_draw hr (by decide) rfl (pa_cons (pv 0) (pa_cons (pe_op op_addA (pe_op op_mulA pe_int (pv 3)) pe_int) pa_nil))) (pv 3)) pa_nil)))) (pss_cons (ps_if (pt_cmpR (op_in_seqK (K := K) rfl) (pv 2) (pe_tup (pa_cons pe_int (pa_cons pe_int (pa_cons pe_int pa_nil)))) (by rfl)) (pss_cons (ps_set (i := 5) sc__law_drawn.nd rfl (Or.inr rfl) (pe_lc (own := [("index", 10)]) rfl sc__law_drawn.nd (pi_range1 rfl T.n_range (pa_cons pe_int pa_nil)) (blkOk_by (own := [("index", 10)]) (N := ["source", "sides", "way", "size", "start", "menu", "sticks", "rest", "points", "joint", "index", "x", "y"]) (sc := defScope s__law_drawn) (by decide +kernel)) (fun _ _ _ _ _ => (pg_name (i := 10) sc__law_drawn.nd rfl (Or.inl rfl))) (fun _ _ _ _ _ => pts_nil) (fun _ _ _ _ _ => (pe_tup (pa_cons (pe_op op_sub (pe_c c__law_draw hr (by decide) rfl (pa_cons (pv 0) (pa_cons pe_int pa_nil))) pe_int) (pa_cons (pe_op op_sub (pe_c c__law_draw hr (by decide) rfl (pa_cons (pv 0) (pa_cons pe_int pa_nil))) pe_int) pa_nil)))))) (pss_cons (ps_if (pt_cmpR (op_eqA hr.units) (pv 2) pe_int (nomark _)) (pss_one (ps_set (i := 5) sc__law_drawn.nd rfl (Or.inr rfl) (pe_lst (pa_cons (pe_ix ix_seq (pv 5) pe_int (fun _ _ => rfl)) (pa_cons (pe_tup (pa_cons (pe_op op_sub pe_int (pe_op op_mulA pe_int (pe_ix ix_seq (pe_ix ix_seq (pv 5) pe_int (fun _ _ => rfl)) pe_int (fun _ _ => rfl)))) (pa_cons (pe_op op_sub pe_int (pe_op op_mulA pe_int (pe_ix ix_seq (pe_ix ix_seq (pv 5) pe_int (fun _ _ => rfl)) pe_int (fun _ _ => rfl)))) pa_nil))) pa_nil))))) pss_nil) (pss_cons (ps_setLc (i := 6) (own := [("index", 10)]) rfl sc__law_drawn.nd rfl rfl (sw_true rfl rfl rfl (by decide +kernel)) (pi_range1 rfl T.n_range (pa_cons (pe_op op_sub (pv 1) pe_int) pa_nil)) (blkOk_by (own := [("index", 10)]) (N := ["source", "sides", "way", "size", "start", "menu", "sticks", "rest", "points", "joint", "index", "x", "y"]) (sc := defScope s__law_drawn) (by decide +kernel)) (fun _ _ _ _ _ => (pg_name (i := 10) sc__law_drawn.nd rfl (Or.inl rfl))) (fun _ _ _ _ _ => pts_nil) (fun _ _ _ _ _ => (pe_ix (ix_seqK K (by rfl)) (pv 5) (pe_c c__law_draw hr (by decide) rfl (pa_cons (pv 0) (pa_cons pe_int pa_nil))) (fun _ _ => rfl)))) (pss_cons (ps_set (i := 7) sc__law_drawn.nd rfl (Or.inl rfl) (pe_tup (pa_cons (pe_op op_sub pe_int (pe_callB (cr_sumA rfl) (by rfl) T.n_sum (by decide +kernel) (pa_cons (pe_lc (own := [("x", 11), ("y", 12)]) rfl sc__law_drawn.nd (pi_any (pv 6)) (blkOk_by (own := [("x", 11), ("y", 12)]) (N := ["source", "sides", "way", "size", "start", "menu", "sticks", "rest", "points", "joint", "index", "x", "y"]) (sc := defScope s__law_drawn) (by decide +kernel)) (fun _ _ _ _ _ => (pg_tupK K 2 (by rfl) (pgs_cons (pg_name (i := 11) sc__law_drawn.nd rfl (Or.inl rfl)) (pgs_cons (pg_name (i := 12) sc__law_drawn.nd rfl (Or.inl rfl)) pgs_nil)) (by rfl))) (fun _ _ _ _ _ => pts_nil) (fun _ _ _ _ _ => (pv 11))) pa_nil))) (pa_cons (pe_op op_sub pe_int (pe_callB (cr_sumA rfl) (by rfl) T.n_sum (by decide +kernel) (pa_cons (pe_lc (own := [("x", 11), ("y", 12)]) rfl sc__law_drawn.nd (pi_any (pv 6)) (blkOk_by (own := [("x", 11), ("y", 12)]) (N := ["source", "sides", "way", "size", "start", "menu", "sticks", "rest", "points", "joint", "index", "x", "y"]) (sc := defScope s__law_drawn) (by decide +kernel)) (fun _ _ _ _ _ => (pg_tupK K 2 (by rfl) (pgs_cons (pg_name (i := 11) sc__law_drawn.nd rfl (Or.inl rfl)) (pgs_cons (pg_name (i := 12) sc__law_drawn.nd rfl (Or.inl rfl)) pgs_nil)) (by rfl))) (fun _ _ _ _ _ => pts_nil) (fun _ _ _ _ _ => (pv 12))) pa_nil))) pa_nil)))) (pss_one (ps_ret (pe_c c__law_closed hr (by decide) rfl (pa_cons (pv 4) (pa_cons (pe_op op_addA (pv 6) (pe_lst (pa_cons (pv 7) pa_nil))) pa_nil))))))))) pss_nil) (pss_cons (ps_set (i := 8) sc__law_drawn.nd rfl (Or.inl rfl) (pe_lst pa_nil)) (pss_cons (ps_for PassesOwn.never rfl (pi_range1 rfl T.n_range (pa_cons (pv 1) pa_nil)) (pg_name (i := 9) sc__law_drawn.nd rfl (Or.inl rfl)) (pss_one (ps_expr (pe_bm PySem.F.plainAttrs_list PySem.F.slot_list_append PySem.F.type_list_append mt_append (pv 8) (pa_cons (pe_tup (pa_cons (pe_op op_sub (pe_c c__law_draw hr (by decide) rfl (pa_cons (pv 0) (pa_cons (pe_op op_addA (pe_op op_mulA pe_int (pv 3)) pe_int) pa_nil))) (pv 3)) (pa_cons (pe_op op_sub (pe_c c__law_draw hr (by decide) rfl (pa_cons (pv 0) (pa_cons (pe_op op_addA (pe_op op_mulA pe_int (pv 3)) pe_int) pa_nil))) (pv 3)) pa_nil))) pa_nil))))) (pss_one (ps_ret (pe_callTy call_tuple_of (by rfl) T.n_tuple (by decide +kernel) (pa_cons (pv 8) pa_nil)))))))))), enter h ?_⟩)
  try dsimp only [cxOf, Cx.nox, Cx.wish]
  rintro ⟨a, sides, n⟩ ds M ⟨rfl, hc0, h3, h8, hn⟩
  dsimp only at *
  have p100 : (2 : Int) ^ 100 = 1267650600228229401496703205376 := by decide
  have p40 : (2 : Int) ^ 40 = 1099511627776 := by decide
  have p30 : (2 : Int) ^ 30 = 1073741824 := by decide
  rw [p30] at hn
  have hM : ∃ c, M a = some c := let ⟨c, h, _⟩ := hc0; ⟨c, h⟩
  have H1 : ∀ {c' : Cell} {k : Int}, IsSrc k c' → ∃ c, put M a c' a = some c ∧ IsSrc k c := fun h => ⟨_, put_same, h⟩
  refine sx_seq (sx_set (ex_draw (n := n) (b := 8) (a := a) rfl hc0 (by decide) (by decide) (by omega) (by walk_at "w"; exact ⟨rfl, rfl⟩) fun way c1 w0 w1 hc1 => ?_))
  refine sx_seq (sx_set (ex_op (ex_lst ?_)))
  walk_at "w"
  have hsz : ∃ s : Int, atI [Dt.int 4, .int 4, .int 9, .int 2, .int 3, .int 3, .int (10 ^ Int.toNat 7), .int 0] way = some (.int s) ∧ 0 ≤ s ∧ s ≤ 10000000 ∧ (way = 3 ∨ way = 4 ∨ way = 5 → s ≤ 3) := by
    have e : way = 0 ∨ way = 1 ∨ way = 2 ∨ way = 3 ∨ way = 4 ∨ way = 5 ∨ way = 6 ∨ way = 7 := by omega
    rcases e with rfl | rfl | rfl | rfl | rfl | rfl | rfl | rfl
    · exact ⟨4, rfl, by decide, by decide, by decide⟩
    · exact ⟨4, rfl, by decide, by decide, by decide⟩
    · exact ⟨9, rfl, by decide, by decide, by decide⟩
    · exact ⟨2, rfl, by decide, by decide, by decide⟩
    · exact ⟨3, rfl, by decide, by decide, by decide⟩
    · exact ⟨3, rfl, by decide, by decide, by decide⟩
    · exact ⟨10 ^ Int.toNat 7, rfl, by decide, by decide, by decide⟩
    · exact ⟨0, rfl, by decide, by decide, by decide⟩
  obtain ⟨s, hs, s0, s1, s3⟩ := hsz
  refine rx_ix_lst hs ?_
  refine sx_seq (sx_set (ex_tup (ax_cons (ex_op ?_))))
  refine ex_draw (n := n + 1) (b := 2 * s + 1) (a := a) rfl (H1 hc1) (by omega) (by omega) (by omega) (by walk_at "w"; exact ⟨rfl, rfl⟩) fun d1 c2 d10 d11 hc2 => ?_
  rw [put_put]
  walk_at "w"
  refine ex_draw (n := n + 1 + 1) (b := 2 * s + 1) (a := a) rfl (H1 hc2) (by omega) (by omega) (by omega) (by walk_at "w"; exact ⟨rfl, rfl⟩) fun d2 c3 d20 d21 hc3 => ?_
  rw [put_put]
  walk_at "w"
  refine rx_in_ints (ns := [3, 4, 5]) (.inl ⟨.inr (.inr rfl), rfl⟩) ?_
  walk_at "w"
  refine ⟨fun hin => ?_, fun hin => ?_⟩
  · have s3' : s ≤ 3 := s3 (by
      have h : inI way [3, 4, 5] = true := hin
      unfold inI at h
      simp at h
      omega)
    obtain ⟨p0, hp0⟩ : ∃ p0 : Pt, p0 = (d1 - s, d2 - s) := ⟨_, rfl⟩
    have hp0b : -3 ≤ p0.1 ∧ p0.1 ≤ 3 ∧ -3 ≤ p0.2 ∧ p0.2 ≤ 3 := by
      rw [hp0]
      dsimp only
      omega
    refine sx_seqc (fun ρ' M' => ∃ m0 m1 c' o6 o7 o8 o9 o10 o11 o12, ρ' = [some (.raw (.ref a)), some (.int sides), some (.int way), some (.int s), some (P2 p0), some (.lst [P2 m0, P2 m1]), o6, o7, o8, o9, o10, o11, o12] ∧ M' = put M a c' ∧ IsSrc (n + 7) c' ∧ Bd 3 [m0, m1]) ?_ ?_
    · refine sx_set (ex_lc (by exact gw_name (by decide)) (ix_rng1 ?_))
      walk_at "w"
      refine ⟨by decide, by decide, by rw [rng_len]; decide, fun i acc M' => ∃ qs c', acc = qs.map P2 ∧ M' = put M a c' ∧ IsSrc (n + 3 + 2 * i) c' ∧ qs.length = i ∧ Bd 3 qs, ?_, fun _ _ _ _ _ => trivial, ?_, ?_⟩
      · exact ⟨[], c3, rfl, rfl, hc3.mono (by omega), rfl, Bd.nil⟩
      · rintro i d acc M' hi ⟨qs, c', rfl, rfl, hc', hl, hb⟩ _
        obtain ⟨hi2, rfl⟩ := rng_get hi
        walk_at "w"
        refine ⟨fun _ => ?_, fun h => by cases h⟩
        walk_at "w"
        refine ex_draw (n := n + 3 + 2 * i) (b := 7) (a := a) rfl (H1 hc') (by omega) (by omega) (by omega) (by walk_at "w"; exact ⟨rfl, rfl⟩) fun e1 c4 e10 e11 hc4 => ?_
        rw [put_put]
        walk_at "w"
        refine ex_draw (n := n + 3 + 2 * i + 1) (b := 7) (a := a) rfl (H1 hc4) (by omega) (by omega) (by omega) (by walk_at "w"; exact ⟨rfl, rfl⟩) fun e2 c5 e20 e21 hc5 => ?_
        rw [put_put]
        walk_at "w"
        refine ⟨qs ++ [(e1 - 3, e2 - 3)], c5, ?_, rfl, hc5.mono (by omega), ?_, hb.append (Bd.one ?_)⟩
        · rw [List.map_append] <;> rfl
        · rw [List.length_append, hl] <;> rfl
        · dsimp only
          omega
      · rintro acc M' ⟨qs, c', rfl, rfl, hc', hl, hb⟩ _
        rw [rng_len] at hl hc'
        match qs, hl with
        | [m0, m1], _ =>
          subst hp0
          exact ⟨m0, m1, c', _, _, _, _, _, _, _, rfl, rfl, hc'.mono (by
            have e : ((Int.toNat 2 : Nat) : Int) = 2 := rfl
            omega), hb⟩
    rintro ρ' M' ⟨m0, m1, c4, o6, o7, o8, o9, o10, o11, o12, rfl, rfl, hc4, hb⟩
    refine sx_seqc (fun ρ' M' => ∃ m0 m1 o6 o7 o8 o9 o10 o11 o12, ρ' = [some (.raw (.ref a)), some (.int sides), some (.int way), some (.int s), some (P2 p0), some (.lst [P2 m0, P2 m1]), o6, o7, o8, o9, o10, o11, o12] ∧ M' = put M a c4 ∧ Bd 6 [m0, m1]) ?_ ?_
    · have hb0 := hb m0 List.mem_cons_self
      walk_at "w"
      refine ⟨fun _ => ?_, fun _ => ?_⟩
      · refine sx_set (ex_lst ?_)
        walk_at "w"
        refine ⟨m0, (0 - 2 * m0.1, 0 - 2 * m0.2), _, _, _, _, _, _, _, rfl, rfl, Bd.cons ?_ (Bd.one ?_)⟩
        · omega
        · dsimp only
          omega
      · walk_at "w"
        exact ⟨m0, m1, _, _, _, _, _, _, _, rfl, rfl, hb.mono (by decide)⟩
    rintro ρ' M' ⟨m0, m1, o6, o7, o8, o9, o10, o11, o12, rfl, rfl, hb⟩
    have hb0 := hb m0 List.mem_cons_self
    have hb1 := hb m1 (List.mem_cons_of_mem _ List.mem_cons_self)
    refine sx_seqc (fun ρ' M' => ∃ qs c' o7 o8 o9 o10 o11 o12, ρ' = [some (.raw (.ref a)), some (.int sides), some (.int way), some (.int s), some (P2 p0), some (.lst [P2 m0, P2 m1]), some (Lps qs), o7, o8, o9, o10, o11, o12] ∧ M' = put M a c' ∧ IsSrc (n + 20) c' ∧ qs.length = sides - 1 ∧ Bd 6 qs) ?_ ?_
    · refine sx_set (ex_lc (by exact gw_name (by decide)) (ix_rng1 ?_))
      walk_at "w"
      refine ⟨by omega, by omega, by rw [rng_len]; exact Nat.lt_of_le_of_lt (m := 8) (by omega) (by decide), fun i acc M' => ∃ qs c', acc = qs.map P2 ∧ M' = put M a c' ∧ IsSrc (n + 7 + i) c' ∧ qs.length = i ∧ Bd 6 qs, ?_, fun _ _ _ _ _ => trivial, ?_, ?_⟩
      · exact ⟨[], c4, rfl, rfl, hc4.mono (by omega), rfl, Bd.nil⟩
      · rintro i d acc M' hi ⟨qs, c', rfl, rfl, hc', hl, hbq⟩ _
        obtain ⟨hi2, rfl⟩ := rng_get hi
        walk_at "w"
        refine ⟨fun _ => ?_, fun h => by cases h⟩
        walk_at "w"
        refine ex_draw (n := n + 7 + i) (b := 2) (a := a) rfl (H1 hc') (by omega) (by omega) (by omega) (by walk_at "w"; exact ⟨rfl, rfl⟩) fun e1 c5 e10 e11 hc5 => ?_
        rw [put_put]
        obtain ⟨q, hq, hqb⟩ : ∃ q, atI [P2 m0, P2 m1] e1 = some (P2 q) ∧ (-6 ≤ q.1 ∧ q.1 ≤ 6 ∧ -6 ≤ q.2 ∧ q.2 ≤ 6) := by
          have e : e1 = 0 ∨ e1 = 1 := by omega
          rcases e with rfl | rfl
          · exact ⟨m0, rfl, hb0⟩
          · exact ⟨m1, rfl, hb1⟩
        refine rx_ix_lst hq ?_
        refine ⟨qs ++ [q], c5, ?_, rfl, hc5.mono (by omega), ?_, hbq.append (Bd.one hqb)⟩
        · rw [List.map_append] <;> rfl
        · rw [List.length_append, hl] <;> rfl
      · rintro acc M' ⟨qs, c', rfl, rfl, hc', hl, hbq⟩ _
        rw [rng_len] at hl hc'
        refine ⟨qs, c', _, _, _, _, _, _, rfl, rfl, hc'.mono (by omega), by omega, hbq⟩
    rintro ρ' M' ⟨qs, c5, o7, o8, o9, o10, o11, o12, rfl, rfl, hc5, hql, hbq⟩
    have hx := sum_bd (B := 6) (ns := qs.map (·.1)) fun v hv => by
      obtain ⟨q, hq, rfl⟩ := List.mem_map.mp hv
      have h := hbq q hq
      omega
    have hy := sum_bd (B := 6) (ns := qs.map (·.2)) fun v hv => by
      obtain ⟨q, hq, rfl⟩ := List.mem_map.mp hv
      have h := hbq q hq
      omega
    rw [List.length_map] at hx hy
    refine sx_seq (sx_set (ex_tup ?_))
    walk_at "w"
    refine ex_lcm (by exact gw_tup (gw_cons (gw_name (by decide)) (gw_cons (gw_name (by decide)) gw_nil gm_name) gm_name)) (ix_any ?_)
    walk_at "w"
    refine ⟨_, _, .inl ⟨.inl rfl, rfl⟩, by rw [List.length_map]; exact Nat.lt_of_le_of_lt (m := 8) (by omega) (by decide), trivial, (qs.map (·.1)).map Dt.int, by rw [List.length_map, List.length_map, List.length_map], ?_, ?_⟩
    · intro i d z hi hz
      rw [List.getElem?_map] at hi
      obtain ⟨p, hp, rfl⟩ := Option.map_eq_some_iff.mp hi
      rw [List.getElem?_map, List.getElem?_map, hp] at hz
      cases hz
      walk_at "w"
      exact ⟨rfl, rfl⟩
    walk_at "w"
    refine cx_sumA (.inl rfl) ?_
    walk_at "w"
    refine ex_lcm (by exact gw_tup (gw_cons (gw_name (by decide)) (gw_cons (gw_name (by decide)) gw_nil gm_name) gm_name)) (ix_any ?_)
    walk_at "w"
    refine ⟨_, _, .inl ⟨.inl rfl, rfl⟩, by rw [List.length_map]; exact Nat.lt_of_le_of_lt (m := 8) (by omega) (by decide), trivial, (qs.map (·.2)).map Dt.int, by rw [List.length_map, List.length_map, List.length_map], ?_, ?_⟩
    · intro i d z hi hz
      rw [List.getElem?_map] at hi
      obtain ⟨p, hp, rfl⟩ := Option.map_eq_some_iff.mp hi
      rw [List.getElem?_map, List.getElem?_map, hp] at hz
      cases hz
      walk_at "w"
      exact ⟨rfl, rfl⟩
    walk_at "w"
    refine cx_sumA (.inl rfl) ?_
    walk_at "w"
    refine ex_call ?_
    walk_at "w"
    refine ex_lst ?_
    walk_at "w"
    refine rx_add_lst (Nat.le_trans (m := 10) (by rw [List.length_map]; show qs.length + 1 ≤ 10; omega) (by decide)) ?_
    refine ax_nil ⟨(p0, qs ++ [(0 - (qs.map (·.1)).sum, 0 - (qs.map (·.2)).sum)], 100), ⟨?_, ?_, ?_, ?_, ?_⟩, ?_⟩
    · show [P2 p0, _] = [P2 p0, Dt.lst ((qs ++ [_]).map P2)]
      rw [List.map_append] <;> rfl
    · show 1 ≤ (qs ++ [_]).length
      rw [List.length_append]
      exact Nat.le_add_left _ _
    · show (qs ++ [_]).length ≤ 20
      rw [List.length_append]
      show qs.length + 1 ≤ 20
      omega
    · refine Bd.cons (by dsimp only; omega) ((hbq.mono (by show (6 : Int) ≤ 100; decide)).append (Bd.one ?_))
      dsimp only
      omega
    · show (0 : Int) ≤ 100
      decide
    · rintro d M2 ⟨rfl, ps, rfl, hl, hb⟩
      dsimp only at hl hb
      rw [List.length_append] at hl
      refine ⟨_, Sub.refl _, ps, c5, rfl, ?_, hb.mono (by decide), rfl, hc5.mono (by omega)⟩
      rw [hl]
      show qs.length + 1 = sides
      omega
  · walk_at "w"
    refine ex_lstC ?_
    walk_at "w"
    refine fun b hb => ?_
    have hba : b ≠ a := fun e => by
      rw [e, put_same] at hb
      cases hb
    refine sx_seqc (fun ρ' M' => ∃ qs c' o9 o10 o11 o12, ρ' = [some (.raw (.ref a)), some (.int sides), some (.int way), some (.int s), some (.tup [.int (d1 - s), .int (d2 - s)]), none, none, none, some (.raw (.ref b)), o9, o10, o11, o12] ∧ M' = put (put M a c') b (.lst (qs.map P2)) ∧ IsSrc (n + 40) c' ∧ qs.length = sides ∧ Bd 10000000 qs) (sx_for (ix_rng1 ?_)) ?_
    · walk_at "w"
      refine ⟨by omega, by omega, fun i ρ' M' => ∃ qs c' o9 o10 o11 o12, ρ' = [some (.raw (.ref a)), some (.int sides), some (.int way), some (.int s), some (.tup [.int (d1 - s), .int (d2 - s)]), none, none, none, some (.raw (.ref b)), o9, o10, o11, o12] ∧ M' = put (put M a c') b (.lst (qs.map P2)) ∧ IsSrc (n + 3 + 2 * i) c' ∧ qs.length = i ∧ Bd 10000000 qs, ?_, fun _ _ _ _ _ => trivial, ?_, ?_⟩
      · exact ⟨[], c3, _, _, _, _, rfl, rfl, hc3.mono (by omega), rfl, Bd.nil⟩
      · rintro i d ρ' M' hi ⟨qs, c', o9, o10, o11, o12, rfl, rfl, hc', hl, hq⟩
        obtain ⟨hi2, rfl⟩ := rng_get hi
        walk_at "w"
        refine ex_append (a := b) ?_
        walk_at "w"
        refine ⟨rfl, _, put_same, ?_⟩
        walk_at "w"
        refine ex_draw (n := n + 3 + 2 * i) (b := 2 * s + 1) (a := a) rfl ⟨c', by rw [put_ne hba.symm, put_same], hc'⟩ (by omega) (by omega) (by omega) (by walk_at "w"; exact ⟨rfl, rfl⟩) fun e1 c4 e10 e11 hc4 => ?_
        rw [put_under hba.symm]
        walk_at "w"
        refine ex_draw (n := n + 3 + 2 * i + 1) (b := 2 * s + 1) (a := a) rfl ⟨c4, by rw [put_ne hba.symm, put_same], hc4⟩ (by omega) (by omega) (by omega) (by walk_at "w"; exact ⟨rfl, rfl⟩) fun e2 c5 e20 e21 hc5 => ?_
        rw [put_under hba.symm]
        walk_at "w"
        refine ⟨P2 (e1 - s, e2 - s), _, rfl, put_same, ?_, ?_⟩
        · rw [List.length_map, hl]
          exact Nat.lt_of_le_of_lt (m := 8) (by omega) (by decide)
        · refine ⟨qs ++ [(e1 - s, e2 - s)], c5, _, _, _, _, rfl, ?_, hc5.mono (by omega), ?_, hq.append (Bd.one ?_)⟩
          · rw [put_put, List.map_append] <;> rfl
          · rw [List.length_append, hl] <;> rfl
          · dsimp only
            omega
      · rintro ρ' M' ⟨qs, c', o9, o10, o11, o12, rfl, rfl, hc', hl, hq⟩
        rw [rng_len] at hl hc'
        exact ⟨qs, c', _, _, _, _, rfl, rfl, hc'.mono (by omega), by omega, hq⟩
    · rintro ρ' M' ⟨qs, c', o9, o10, o11, o12, rfl, rfl, hc', hl, hq⟩
      refine sx_ret (ex_cb ?_)
      walk_at "w"
      refine cx_tuple (.inr ⟨b, rfl, put_same, rfl⟩) ?_
      refine ⟨put M a c', Sub.put (Sub.refl _) ?_, qs, c', rfl, hl, hq.mono (by decide), rfl, hc'.mono (by omega)⟩
      have e : put M a c3 b = M b := put_ne hba
      rw [e] at hb
      rw [put_ne hba]
      exact hb
end
end Wk
namespace Wk
open PySem L2 Evl
local macro_rules | `(tactic| walk_at "w1") => `(tactic| first
  | ((with_reducible refine' ex_var ?hv ?_); (case hv => rfl))
  | ((with_reducible refine' rx_ix_tup ?hv ?_); (case hv => rfl))
  | ((with_reducible refine' rx_ix_lst ?hv ?_); (case hv => rfl))
  | ((with_reducible refine' gx_tup ?hv ?_); (case hv => rfl))
  | ((with_reducible refine' rx_ix_cell ?hm ?hv ?_); (case hm => first | assumption | exact put_same); (case hv => rfl))
  | ((with_reducible refine' cx_len_cell ?hm ?_); (case hm => first | assumption | exact put_same))
  | ((with_reducible refine' rx_Ii ?hc ?_); (case hc => first | assumption | exact ⟨by decide, by decide +kernel⟩ | (show (0 : Int) < _; omega) | (show (0 : Int) < _; decide)))
  | ((with_reducible refine' rx_mul_int ?hc ?_); (case hc => first | assumption | exact cmul_l (by decide) (by decide) | exact cmul_r (by decide) (by decide)))
  | with_reducible refine ex_int ?_
  | with_reducible refine ex_str ?_
  | with_reducible refine ex_bl ?_
  | with_reducible refine ex_non ?_
  | with_reducible refine ex_raw ?_
  | with_reducible refine ex_op ?_
  | with_reducible refine ex_un ?_
  | with_reducible refine ex_cb ?_
  | with_reducible refine ex_tup ?_
  | with_reducible refine ex_sl ?_
  | with_reducible refine ox_none ?_
  | with_reducible refine ox_some ?_
  | with_reducible refine ax_nil ?_
  | with_reducible refine ax_cons ?_
  | with_reducible refine ex_if ?_
  | with_reducible refine ex_andV ?_
  | with_reducible refine ex_orV ?_
  | with_reducible refine ex_notV ?_
  | with_reducible refine ex_m0 ?_
  | with_reducible refine ex_m1 ?_
  | with_reducible refine tx_test ?_
  | with_reducible refine tx_B ?_
  | with_reducible refine tx_and ?_
  | with_reducible refine tx_or ?_
  | with_reducible refine tx_not ?_
  | with_reducible refine tx_yes ?_
  | with_reducible refine sx_seq ?_
  | with_reducible refine sx_set ?_
  | with_reducible refine sx_ret ?_
  | with_reducible refine sx_drop ?_
  | with_reducible refine sx_next ?_
  | with_reducible refine sx_if ?_
  | with_reducible refine sx_retN ?_
  | with_reducible refine sx_asg ?_
  | with_reducible refine sx_par ?_
  | with_reducible refine gx_name ?_
  | with_reducible refine gxs_cons ?_
  | with_reducible refine gxs_nil ?_
  | with_reducible refine rx_add_int ?_
  | with_reducible refine rx_I0i ?_
  | with_reducible refine rx_I0b ?_
  | with_reducible refine rx_eq_int ?_
  | with_reducible refine rx_ne_int ?_
  | with_reducible refine rx_eq_str ?_
  | with_reducible refine rx_ne_str ?_
  | with_reducible refine rx_eq_bl ?_
  | with_reducible refine rx_ne_bl ?_
  | with_reducible refine lx_tup ?_
  | with_reducible refine lx_lst ?_
  | with_reducible refine cx_len_tup ?_
  | with_reducible refine cx_len_lst ?_
  | with_reducible refine cx_len_frl ?_
  | with_reducible refine cx_max2 ?_
  | with_reducible refine ux_neg ?_
  | with_reducible refine cx_list_lst ?_
  | with_reducible refine cx_tuple_lst ?_
  | with_reducible refine cx_tuple_tup ?_
  | with_reducible refine mx_isdigit ?_
  | with_reducible refine mx_startswith ?_
  | with_reducible refine ix_any ?_
  | with_reducible refine And.intro (Nat.le_of_ble_eq_true rfl) ?_
  | refine Exists.intro _ (And.intro rfl ?_))
local macro_rules | `(tactic| walk_at "w") => `(tactic| repeat (walk_at "w1"))
section
variable {P : Program} {w : World} {K : PySem.W.Frag} {mg : Str → Option Value} {base : Heap} {C WE BP BT NC BJ S BW TM TF BS UN NP UF DP DF J UR SC JC CG RB RS FJ f g : Addr} {fd : FuncData}
theorem ok__law_sticks {f : Addr} {fd : FuncData} (F : Fun K "_law_sticks" "_law_sticks" s__law_sticks f fd) (T : Tx K mg C)  : FnOk P w K mg base CX0 1 f fd ["points"] (spSticksL K) := by
  refine F.ok sc__law_sticks (spD_len (n := 1) (fun x ds M h => by rw [h.1] <;> rfl)) (fun cdv A outer s H vs Q E hr h => ⟨_, (pss_cons (ps_set (i := 1) sc__law_sticks.nd rfl (Or.inl rfl) (pe_op op_addA (pe_slice sl_any (pv 0) (po_some pe_int) po_none) (pe_slice sl_any (pv 0) po_none (po_some pe_int)))) (pss_one (ps_ret (pe_callTy call_tuple_of (by rfl) T.n_tuple (by decide +kernel) (pa_cons (pe_lc (own := [("here", 2), ("after", 3)]) rfl sc__law_sticks.nd (RZ.pi_zipA rfl T.n_zip (pa_cons (pv 0) (pa_cons (pv 1) pa_nil))) (blkOk_by (own := [("here", 2), ("after", 3)]) (N := ["points", "following", "here", "after"]) (sc := defScope s__law_sticks) (by decide +kernel)) (fun _ _ _ _ _ => (pg_tupK K 2 (by rfl) (pgs_cons (pg_name (i := 2) sc__law_sticks.nd rfl (Or.inl rfl)) (pgs_cons (pg_name (i := 3) sc__law_sticks.nd rfl (Or.inl rfl)) pgs_nil)) (by rfl))) (fun _ _ _ _ _ => pts_nil) (fun _ _ _ _ _ => (pe_tup (pa_cons (pe_op op_sub (pe_ix (ix_seqK K (by rfl)) (pv 3) pe_int (fun _ _ => rfl)) (pe_ix (ix_seqK K (by rfl)) (pv 2) pe_int (fun _ _ => rfl))) (pa_cons (pe_op op_sub (pe_ix (ix_seqK K (by rfl)) (pv 3) pe_int (fun _ _ => rfl)) (pe_ix (ix_seqK K (by rfl)) (pv 2) pe_int (fun _ _ => rfl))) pa_nil))))) pa_nil))))), enter h ?_⟩)
  try dsimp only [cxOf, Cx.nox, Cx.wish]
  rintro ps ds M ⟨rfl, h8⟩
  walk_at "w"
  refine rx_add_tup ?_ ?_
  · have h1 : (cutD (ps.map P2) (some 1) none).length ≤ 1000 := Nat.le_trans (cutD_length _ _ _) (by rw [List.length_map]; omega)
    have h2 : (cutD (ps.map P2) none (some 1)).length ≤ 1000 := Nat.le_trans (cutD_length _ _ _) (by rw [List.length_map]; omega)
    exact Nat.le_trans (Nat.add_le_add h1 h2) (by decide)
  rw [cutD_rot, ← rot_map]
  refine sx_ret (ex_cb (ax_cons (ex_lcm (by exact gw_tup (gw_cons (gw_name (by decide)) (gw_cons (gw_name (by decide)) gw_nil gm_name) gm_name)) (ix_zip ?_))))
  walk_at "w"
  refine ⟨_, _, .inl rfl, ?_⟩
  refine ⟨?_, trivial, (sticksP ps).map P2, ?_, ?_, ?_⟩
  · rw [zipD_len, List.length_map]
    exact Nat.lt_of_le_of_lt (Nat.min_le_left _ _) (Nat.lt_of_le_of_lt h8 (by decide))
  · rw [zipD_len, List.length_map, List.length_map, List.length_map, sticksP_length, rot_length, Nat.min_self]
  · intro i d z hi hz
    obtain ⟨x, y, hx, hy, rfl⟩ := zipD_inv hi
    rw [List.getElem?_map] at hx hy
    obtain ⟨p, hp, rfl⟩ := Option.map_eq_some_iff.mp hx
    obtain ⟨q, hq, rfl⟩ := Option.map_eq_some_iff.mp hy
    rw [List.getElem?_map, sticksP_get hp hq] at hz
    cases hz
    walk_at "w"
    exact ⟨rfl, rfl⟩
  · walk_at "w"
    exact ret_pure rfl (Sub.refl M)
end
end Wk
namespace Wk
open PySem L2 Evl
local macro_rules | `(tactic| walk_at "w1") => `(tactic| first
  | ((with_reducible refine' ex_var ?hv ?_); (case hv => rfl))
  | ((with_reducible refine' rx_ix_tup ?hv ?_); (case hv => rfl))
  | ((with_reducible refine' rx_ix_lst ?hv ?_); (case hv => rfl))
  | ((with_reducible refine' gx_tup ?hv ?_); (case hv => rfl))
  | ((with_reducible refine' rx_ix_cell ?hm ?hv ?_); (case hm => first | assumption | exact put_same); (case hv => rfl))
  | ((with_reducible refine' cx_len_cell ?hm ?_); (case hm => first | assumption | exact put_same))
  | ((with_reducible refine' rx_Ii ?hc ?_); (case hc => first | assumption | exact ⟨by decide, by decide +kernel⟩ | (show (0 : Int) < _; omega) | (show (0 : Int) < _; decide)))
  | ((with_reducible refine' rx_mul_int ?hc ?_); (case hc => first | assumption | exact cmul_l (by decide) (by decide) | exact cmul_r (by decide) (by decide)))
  | with_reducible refine ex_int ?_
  | with_reducible refine ex_str ?_
  | with_reducible refine ex_bl ?_
  | with_reducible refine ex_non ?_
  | with_reducible refine ex_raw ?_
  | with_reducible refine ex_op ?_
  | with_reducible refine ex_un ?_
  | with_reducible refine ex_cb ?_
  | with_reducible refine ex_tup ?_
  | with_reducible refine ex_sl ?_
  | with_reducible refine ox_none ?_
  | with_reducible refine ox_some ?_
  | with_reducible refine ax_nil ?_
  | with_reducible refine ax_cons ?_
  | with_reducible refine ex_if ?_
  | with_reducible refine ex_andV ?_
  | with_reducible refine ex_orV ?_
  | with_reducible refine ex_notV ?_
  | with_reducible refine ex_m0 ?_
  | with_reducible refine ex_m1 ?_
  | with_reducible refine tx_test ?_
  | with_reducible refine tx_B ?_
  | with_reducible refine tx_and ?_
  | with_reducible refine tx_or ?_
  | with_reducible refine tx_not ?_
  | with_reducible refine tx_yes ?_
  | with_reducible refine sx_seq ?_
  | with_reducible refine sx_set ?_
  | with_reducible refine sx_ret ?_
  | with_reducible refine sx_drop ?_
  | with_reducible refine sx_next ?_
  | with_reducible refine sx_if ?_
  | with_reducible refine sx_retN ?_
  | with_reducible refine sx_asg ?_
  | with_reducible refine sx_par ?_
  | with_reducible refine gx_name ?_
  | with_reducible refine gxs_cons ?_
  | with_reducible refine gxs_nil ?_
  | with_reducible refine rx_add_int ?_
  | with_reducible refine rx_I0i ?_
  | with_reducible refine rx_I0b ?_
  | with_reducible refine rx_eq_int ?_
  | with_reducible refine rx_ne_int ?_
  | with_reducible refine rx_eq_str ?_
  | with_reducible refine rx_ne_str ?_
  | with_reducible refine rx_eq_bl ?_
  | with_reducible refine rx_ne_bl ?_
  | with_reducible refine lx_tup ?_
  | with_reducible refine lx_lst ?_
  | with_reducible refine cx_len_tup ?_
  | with_reducible refine cx_len_lst ?_
  | with_reducible refine cx_len_frl ?_
  | with_reducible refine cx_max2 ?_
  | with_reducible refine ux_neg ?_
  | with_reducible refine cx_list_lst ?_
  | with_reducible refine cx_tuple_lst ?_
  | with_reducible refine cx_tuple_tup ?_
  | with_reducible refine mx_isdigit ?_
  | with_reducible refine mx_startswith ?_
  | with_reducible refine ix_any ?_
  | with_reducible refine And.intro (Nat.le_of_ble_eq_true rfl) ?_
  | refine Exists.intro _ (And.intro rfl ?_))
local macro_rules | `(tactic| walk_at "w") => `(tactic| repeat (walk_at "w1"))
section
variable {P : Program} {w : World} {K : PySem.W.Frag} {mg : Str → Option Value} {base : Heap} {C WE BP BT NC BJ S BW TM TF BS UN NP UF DP DF J UR SC JC CG RB RS FJ f g : Addr} {fd : FuncData}
theorem ok__law_shuffled {f : Addr} {fd : FuncData} (F : Fun K "_law_shuffled" "_law_shuffled" s__law_shuffled f fd) (T : Tx K mg C) (c__law_draw : Cal P w K mg base 1 "_law_draw" (spDraw K)) : FnOk P w K mg base CX0 2 f fd ["source", "things"] (spShuf K) := by
  refine F.ok sc__law_shuffled (spD_len (n := 2) (fun x ds M h => by rw [h.1] <;> rfl)) (fun cdv A outer s H vs Q E hr h => ⟨_, (pss_cons (ps_set (i := 2) sc__law_shuffled.nd rfl (Or.inr rfl) (pe_callTy call_list_of (by rfl) T.n_list (by decide +kernel) (pa_cons (pv 1) pa_nil))) (pss_one (ps_ret (pe_lc (own := [("step", 3)]) rfl sc__law_shuffled.nd (pi_range1 rfl T.n_range (pa_cons (pe_callB call_lenA (by rfl) T.n_len (by decide +kernel) (pa_cons (pv 2) pa_nil)) pa_nil)) (blkOk_by (own := [("step", 3)]) (N := ["source", "things", "left", "step"]) (sc := defScope s__law_shuffled) (by decide +kernel)) (fun _ _ _ _ _ => (pg_name (i := 3) sc__law_shuffled.nd rfl (Or.inl rfl))) (fun _ _ _ _ _ => pts_nil) (fun _ _ _ _ _ => (pe_bmK K (by rfl) PySem.F.plainAttrs_list PySem.F.slot_list_pop PySem.F.type_list_pop mt_popAt (pv 2) (pa_cons (pe_c c__law_draw hr (by decide) rfl (pa_cons (pv 0) (pa_cons (pe_callB (call_lenK K (by rfl)) (by rfl) T.n_len (by decide +kernel) (pa_cons (pv 2) pa_nil)) pa_nil))) pa_nil))))))), enter h ?_⟩)
  try dsimp only [cxOf, Cx.nox, Cx.wish]
  rintro ⟨a, xs, n⟩ ds M ⟨rfl, hc0, hl, hn⟩
  dsimp only at *
  refine sx_seq (sx_set (ex_cb (ax_cons (ex_var rfl (ax_nil (cx_listC (.inl ⟨.inl rfl, rfl⟩) fun b hb => ?_))))))
  have hba : b ≠ a := fun e => by
    obtain ⟨c, hc, _⟩ := hc0
    rw [e, hc] at hb
    cases hb
  refine sx_ret (ex_lc (by exact gw_name (by decide)) (ix_rng1 (ax_cons (ex_cb (ax_cons (ex_var rfl (ax_nil (cx_len_cell put_same (ax_nil ?_)))))))))
  refine ⟨xs.length, rfl, by omega, by omega, by rw [rng_len, Int.toNat_natCast]; exact Nat.lt_of_le_of_lt hl (by decide), fun i acc M' => ∃ ys c', M' = put (put M a c') b (.lst ys) ∧ (acc ++ ys).Perm xs ∧ acc.length = i ∧ IsSrc (n + i) c', ?_, fun _ _ _ _ _ => trivial, ?_, ?_⟩
  · obtain ⟨c, hc, hs⟩ := hc0
    refine ⟨xs, c, ?_, List.Perm.refl _, rfl, hs.mono (by omega)⟩
    congr 1
    funext z
    by_cases e : z = a
    · rw [e, put_same, hc]
    · rw [put_ne e]
  · rintro i d acc M' hi ⟨ys, c', rfl, hp, hl2, hc'⟩ _
    obtain ⟨hi2, rfl⟩ := rng_get hi
    rw [Int.toNat_natCast] at hi2
    have e := hp.length_eq
    rw [List.length_append] at e
    refine gx_name (tx_yes ⟨fun _ => ?_, fun h => by cases h⟩)
    refine ex_popAt (a := b) ?_
    walk_at "w"
    refine ⟨rfl, ys, put_same, ?_⟩
    refine ax_cons (ex_draw (n := n + i) (b := (ys.length : Int)) (a := a) rfl ⟨c', by rw [put_ne hba.symm, put_same], hc'⟩ (by omega) (by omega) (by omega) ?_ fun r c2 r0 r1 hc2 => ?_)
    · walk_at "w"
      exact ⟨rfl, rfl⟩
    rw [put_under hba.symm]
    obtain ⟨k, rfl⟩ := Int.eq_ofNat_of_zero_le r0
    have hk : k < ys.length := by omega
    refine ax_nil ⟨ys, (k : Int), k, ys[k], rfl, put_same, by omega, by omega, ?_, List.getElem?_eq_getElem hk, ?_⟩
    · have q := PySem.seqIndex_of (k := (k : Int)) (n := ys.length) (by omega) (by omega)
      rw [Int.toNat_natCast] at q
      exact q
    · refine ⟨ys.eraseIdx k, c2, by rw [put_put], ?_, by rw [List.length_append, hl2] <;> rfl, hc2.mono (by omega)⟩
      rw [List.append_assoc]
      refine List.Perm.trans ?_ hp
      refine List.Perm.append_left acc ?_
      have e1 : ys = ys.take k ++ ys[k] :: ys.drop (k + 1) := by rw [List.getElem_cons_drop, List.take_append_drop]
      have e2 : ys.eraseIdx k = ys.take k ++ ys.drop (k + 1) := List.eraseIdx_eq_take_drop_succ ..
      rw [e2]
      refine List.Perm.trans ?_ (List.Perm.of_eq e1.symm)
      show (ys[k] :: (ys.take k ++ ys.drop (k + 1))).Perm _
      exact List.perm_middle.symm
  · rintro acc M' ⟨ys, c', rfl, hp, hl2, hc'⟩ _
    rw [rng_len, Int.toNat_natCast] at hl2
    have e := hp.length_eq
    rw [List.length_append] at e
    have y0 : ys = [] := List.length_eq_zero_iff.mp (by omega)
    subst y0
    rw [List.append_nil] at hp
    refine ⟨put M a c', Sub.put (Sub.refl _) (by rw [put_ne hba]; exact hb), acc, c', rfl, hp, rfl, ?_⟩
    rw [rng_len, Int.toNat_natCast] at hc'
    exact hc'
end
end Wk
namespace Wk
open PySem L2 Evl
local macro_rules | `(tactic| walk_at "w1") => `(tactic| first
  | ((with_reducible refine' ex_var ?hv ?_); (case hv => rfl))
  | ((with_reducible refine' rx_ix_tup ?hv ?_); (case hv => rfl))
  | ((with_reducible refine' rx_ix_lst ?hv ?_); (case hv => rfl))
  | ((with_reducible refine' gx_tup ?hv ?_); (case hv => rfl))
  | ((with_reducible refine' rx_ix_cell ?hm ?hv ?_); (case hm => first | assumption | exact put_same); (case hv => rfl))
  | ((with_reducible refine' cx_len_cell ?hm ?_); (case hm => first | assumption | exact put_same))
  | ((with_reducible refine' rx_Ii ?hc ?_); (case hc => first | assumption | exact ⟨by decide, by decide +kernel⟩ | (show (0 : Int) < _; omega) | (show (0 : Int) < _; decide)))
  | ((with_reducible refine' rx_mul_int ?hc ?_); (case hc => first | assumption | exact cmul_l (by decide) (by decide) | exact cmul_r (by decide) (by decide)))
  | with_reducible refine ex_int ?_
  | with_reducible refine ex_str ?_
  | with_reducible refine ex_bl ?_
  | with_reducible refine ex_non ?_
  | with_reducible refine ex_raw ?_
  | with_reducible refine ex_op ?_
  | with_reducible refine ex_un ?_
  | with_reducible refine ex_cb ?_
  | with_reducible refine ex_tup ?_
  | with_reducible refine ex_sl ?_
  | with_reducible refine ox_none ?_
  | with_reducible refine ox_some ?_
  | with_reducible refine ax_nil ?_
  | with_reducible refine ax_cons ?_
  | with_reducible refine ex_if ?_
  | with_reducible refine ex_andV ?_
  | with_reducible refine ex_orV ?_
  | with_reducible refine ex_notV ?_
  | with_reducible refine ex_m0 ?_
  | with_reducible refine ex_m1 ?_
  | with_reducible refine tx_test ?_
  | with_reducible refine tx_B ?_
  | with_reducible refine tx_and ?_
  | with_reducible refine tx_or ?_
  | with_reducible refine tx_not ?_
  | with_reducible refine tx_yes ?_
  | with_reducible refine sx_seq ?_
  | with_reducible refine sx_set ?_
  | with_reducible refine sx_ret ?_
  | with_reducible refine sx_drop ?_
  | with_reducible refine sx_next ?_
  | with_reducible refine sx_if ?_
  | with_reducible refine sx_retN ?_
  | with_reducible refine sx_asg ?_
  | with_reducible refine sx_par ?_
  | with_reducible refine gx_name ?_
  | with_reducible refine gxs_cons ?_
  | with_reducible refine gxs_nil ?_
  | with_reducible refine rx_add_int ?_
  | with_reducible refine rx_I0i ?_
  | with_reducible refine rx_I0b ?_
  | with_reducible refine rx_eq_int ?_
  | with_reducible refine rx_ne_int ?_
  | with_reducible refine rx_eq_str ?_
  | with_reducible refine rx_ne_str ?_
  | with_reducible refine rx_eq_bl ?_
  | with_reducible refine rx_ne_bl ?_
  | with_reducible refine lx_tup ?_
  | with_reducible refine lx_lst ?_
  | with_reducible refine cx_len_tup ?_
  | with_reducible refine cx_len_lst ?_
  | with_reducible refine cx_len_frl ?_
  | with_reducible refine cx_max2 ?_
  | with_reducible refine ux_neg ?_
  | with_reducible refine cx_list_lst ?_
  | with_reducible refine cx_tuple_lst ?_
  | with_reducible refine cx_tuple_tup ?_
  | with_reducible refine mx_isdigit ?_
  | with_reducible refine mx_startswith ?_
  | with_reducible refine ix_any ?_
  | with_reducible refine And.intro (Nat.le_of_ble_eq_true rfl) ?_
  | refine Exists.intro _ (And.intro rfl ?_))
local macro_rules | `(tactic| walk_at "w") => `(tactic| repeat (walk_at "w1"))
section
variable {P : Program} {w : World} {K : PySem.W.Frag} {mg : Str → Option Value} {base : Heap} {C WE BP BT NC BJ S BW TM TF BS UN NP UF DP DF J UR SC JC CG RB RS FJ f g : Addr} {fd : FuncData}
theorem ok_closedE {f : Addr} {fd : FuncData} (F : Fun K "_law_closed" "_law_closed" s__law_closed f fd) (T : Tx K mg C)  : FnOk P w K mg base CX0 1 f fd ["start", "sticks"] (spClosedE K) := by
  refine F.ok sc__law_closed (spD_len (n := 2) (fun x ds M h => by rw [h.1] <;> rfl)) (fun cdv A outer s H vs Q E hr h => ⟨_, (pss_cons (ps_set (i := 2) sc__law_closed.nd rfl (Or.inl rfl) (pe_lst (pa_cons (pv 0) pa_nil))) (pss_cons (ps_for PassesOwn.never rfl (pi_any (pe_slice sl_any (pv 1) po_none (po_some (pe_un un_neg pe_int)))) (pg_tup (by rfl) (pgs_cons (pg_name (i := 3) sc__law_closed.nd rfl (Or.inl rfl)) (pgs_cons (pg_name (i := 4) sc__law_closed.nd rfl (Or.inl rfl)) pgs_nil))) (pss_one (ps_expr (pe_bm PySem.F.plainAttrs_list PySem.F.slot_list_append PySem.F.type_list_append mt_append (pv 2) (pa_cons (pe_tup (pa_cons (pe_op op_addA (pe_ix ix_seq (pe_ix ix_seq (pv 2) (pe_un un_neg pe_int) (fun _ _ => rfl)) pe_int (fun _ _ => rfl)) (pv 3)) (pa_cons (pe_op op_addA (pe_ix ix_seq (pe_ix ix_seq (pv 2) (pe_un un_neg pe_int) (fun _ _ => rfl)) pe_int (fun _ _ => rfl)) (pv 4)) pa_nil))) pa_nil))))) (pss_one (ps_ret (pe_callTy call_tuple_of (by rfl) T.n_tuple (by decide +kernel) (pa_cons (pv 2) pa_nil)))))), enter h ?_⟩)
  try dsimp only [cxOf, Cx.nox, Cx.wish]
  rintro ⟨p0, sts⟩ ds M ⟨rfl, h1, h20⟩
  dsimp only at *
  refine sx_seq (sx_set (ex_lstC ?_))
  walk_at "w"
  refine fun a ha => ?_
  refine sx_seqc (fun ρ' M' => ∃ x y, ρ' = [some (P2 p0), some (Lps sts), some (.raw (.ref a)), x, y] ∧ M' = put M a (.lst ((closP p0 sts.dropLast).map P2))) (sx_for ?_) ?_
  · walk_at "w"
    refine ⟨_, _, .inl ⟨.inl rfl, rfl⟩, fun i ρ' M' => ∃ x y, ρ' = [some (P2 p0), some (Lps sts), some (.raw (.ref a)), x, y] ∧ M' = put M a (.lst ((closP p0 (sts.dropLast.take i)).map P2)), ⟨_, _, rfl, rfl⟩, fun _ _ _ _ _ => trivial, ?_, ?_⟩
    · rintro i d ρ' M' hi ⟨x, y, rfl, rfl⟩
      rw [cutD_init, ← List.map_dropLast, List.getElem?_map] at hi
      obtain ⟨p, hp, rfl⟩ := Option.map_eq_some_iff.mp hi
      have hlt := (List.getElem?_eq_some_iff.mp hp).1
      have hlen : (closP p0 (sts.dropLast.take i)).length = i + 1 := by rw [closP_len, List.length_take, Nat.min_eq_left (by omega)]
      have hq0 : 0 < (closP p0 (sts.dropLast.take i)).length := by omega
      rw [List.length_dropLast] at hlt
      walk_at "w"
      refine ex_append (a := a) ?_
      walk_at "w"
      refine ⟨rfl, _, put_same, ?_⟩
      walk_at "w"
      refine rx_ix_cell put_same (atI_lst hq0) ?_
      walk_at "w"
      refine rx_ix_cell put_same (atI_lst hq0) ?_
      walk_at "w"
      refine ⟨P2 (addP (ptD (closP p0 (sts.dropLast.take i)) i) p), _, by rw [hlen]; rfl, put_same, ?_, ?_⟩
      · rw [List.length_map, hlen]
        exact Nat.lt_of_le_of_lt (m := 30) (by omega) (by decide)
      · refine ⟨_, _, rfl, ?_⟩
        rw [put_put, closP_at hp, List.map_append] <;> rfl
    · rintro ρ' M' ⟨x, y, rfl, rfl⟩
      rw [cutD_init, List.length_dropLast, List.length_map]
      refine ⟨_, _, rfl, ?_⟩
      rw [List.take_of_length_le (by rw [List.length_dropLast]; exact Nat.le_refl _)]
  · rintro ρ' M' ⟨x, y, rfl, rfl⟩
    refine sx_ret (ex_cb ?_)
    walk_at "w"
    refine cx_tuple (.inr ⟨a, rfl, put_same, rfl⟩) ?_
    exact ret_pure rfl (Sub.put (Sub.refl M) ha)
end
end Wk
namespace Wk
open PySem L2 Evl
local macro_rules | `(tactic| walk_at "w1") => `(tactic| first
  | ((with_reducible refine' ex_var ?hv ?_); (case hv => rfl))
  | ((with_reducible refine' rx_ix_tup ?hv ?_); (case hv => rfl))
  | ((with_reducible refine' rx_ix_lst ?hv ?_); (case hv => rfl))
  | ((with_reducible refine' gx_tup ?hv ?_); (case hv => rfl))
  | ((with_reducible refine' rx_ix_cell ?hm ?hv ?_); (case hm => first | assumption | exact put_same); (case hv => rfl))
  | ((with_reducible refine' cx_len_cell ?hm ?_); (case hm => first | assumption | exact put_same))
  | ((with_reducible refine' rx_Ii ?hc ?_); (case hc => first | assumption | exact ⟨by decide, by decide +kernel⟩ | (show (0 : Int) < _; omega) | (show (0 : Int) < _; decide)))
  | ((with_reducible refine' rx_mul_int ?hc ?_); (case hc => first | assumption | exact cmul_l (by decide) (by decide) | exact cmul_r (by decide) (by decide)))
  | with_reducible refine ex_int ?_
  | with_reducible refine ex_str ?_
  | with_reducible refine ex_bl ?_
  | with_reducible refine ex_non ?_
  | with_reducible refine ex_raw ?_
  | with_reducible refine ex_op ?_
  | with_reducible refine ex_un ?_
  | with_reducible refine ex_cb ?_
  | with_reducible refine ex_tup ?_
  | with_reducible refine ex_sl ?_
  | with_reducible refine ox_none ?_
  | with_reducible refine ox_some ?_
  | with_reducible refine ax_nil ?_
  | with_reducible refine ax_cons ?_
  | with_reducible refine ex_if ?_
  | with_reducible refine ex_andV ?_
  | with_reducible refine ex_orV ?_
  | with_reducible refine ex_notV ?_
  | with_reducible refine ex_m0 ?_
  | with_reducible refine ex_m1 ?_
  | with_reducible refine tx_test ?_
  | with_reducible refine tx_B ?_
  | with_reducible refine tx_and ?_
  | with_reducible refine tx_or ?_
  | with_reducible refine tx_not ?_
  | with_reducible refine tx_yes ?_
  | with_reducible refine sx_seq ?_
  | with_reducible refine sx_set ?_
  | with_reducible refine sx_ret ?_
  | with_reducible refine sx_drop ?_
  | with_reducible refine sx_next ?_
  | with_reducible refine sx_if ?_
  | with_reducible refine sx_retN ?_
  | with_reducible refine sx_asg ?_
  | with_reducible refine sx_par ?_
  | with_reducible refine gx_name ?_
  | with_reducible refine gxs_cons ?_
  | with_reducible refine gxs_nil ?_
  | with_reducible refine rx_add_int ?_
  | with_reducible refine rx_I0i ?_
  | with_reducible refine rx_I0b ?_
  | with_reducible refine rx_eq_int ?_
  | with_reducible refine rx_ne_int ?_
  | with_reducible refine rx_eq_str ?_
  | with_reducible refine rx_ne_str ?_
  | with_reducible refine rx_eq_bl ?_
  | with_reducible refine rx_ne_bl ?_
  | with_reducible refine lx_tup ?_
  | with_reducible refine lx_lst ?_
  | with_reducible refine cx_len_tup ?_
  | with_reducible refine cx_len_lst ?_
  | with_reducible refine cx_len_frl ?_
  | with_reducible refine cx_max2 ?_
  | with_reducible refine ux_neg ?_
  | with_reducible refine cx_list_lst ?_
  | with_reducible refine cx_tuple_lst ?_
  | with_reducible refine cx_tuple_tup ?_
  | with_reducible refine mx_isdigit ?_
  | with_reducible refine mx_startswith ?_
  | with_reducible refine ix_any ?_
  | with_reducible refine And.intro (Nat.le_of_ble_eq_true rfl) ?_
  | refine Exists.intro _ (And.intro rfl ?_))
local macro_rules | `(tactic| walk_at "w") => `(tactic| repeat (walk_at "w1"))
section
variable {P : Program} {w : World} {K : PySem.W.Frag} {mg : Str → Option Value} {base : Heap} {C WE BP BT NC BJ S BW TM TF BS UN NP UF DP DF J UR SC JC CG RB RS FJ f g : Addr} {fd : FuncData}
theorem ok__law_rearranged {f : Addr} {fd : FuncData} (F : Fun K "_law_rearranged" "_law_rearranged" s__law_rearranged f fd) (T : Tx K mg C) (c__law_draw : Cal P w K mg base 1 "_law_draw" (spDraw K)) (c__law_sticks : Cal P w K mg base 1 "_law_sticks" (spSticksL K)) (c__law_shuffled : Cal P w K mg base 2 "_law_shuffled" (spShuf K)) (c_closedE : Cal P w K mg base 1 "_law_closed" (spClosedE K)) : FnOk P w K mg base CX0 3 f fd ["source", "points", "reach"] (spRearr K) := by
  refine F.ok sc__law_rearranged (spD_len (n := 3) (fun x ds M h => by rw [h.1] <;> rfl)) (fun cdv A outer s H vs Q E hr h => ⟨_, (pss_cons (ps_set (i := 3) sc__law_rearranged.nd rfl (Or.inl rfl) (pe_callTy call_list_of (by rfl) T.n_list (by decide +kernel) (pa_cons (pe_c c__law_sticks hr (by decide) rfl (pa_cons (pv 1) pa_nil)) pa_nil))) (pss_cons (ps_asg (pe_ix ix_seq (pv 1) pe_int (fun _ _ => rfl)) (pg_tup (by rfl) (pgs_cons (pg_name (i := 4) sc__law_rearranged.nd rfl (Or.inl rfl)) (pgs_cons (pg_name (i := 5) sc__law_rearranged.nd rfl (Or.inl rfl)) pgs_nil)))) (pss_cons (ps_for PassesOwn.never rfl (pi_range1 rfl T.n_range (pa_cons (pe_c c__law_draw hr (by decide) rfl (pa_cons (pv 0) (pa_cons pe_int pa_nil))) pa_nil)) (pg_name (i := 6) sc__law_rearranged.nd rfl (Or.inl rfl)) (pss_cons (ps_set (i := 7) sc__law_rearranged.nd rfl (Or.inl rfl) (pe_ix ix_seq (pv 3) (pe_c c__law_draw hr (by decide) rfl (pa_cons (pv 0) (pa_cons (pe_callB call_lenA (by rfl) T.n_len (by decide +kernel) (pa_cons (pv 3) pa_nil)) pa_nil))) (fun _ _ => rfl))) (pss_cons (ps_set (i := 8) sc__law_rearranged.nd rfl (Or.inl rfl) (pe_ix ix_seq (pv 3) (pe_c c__law_draw hr (by decide) rfl (pa_cons (pv 0) (pa_cons (pe_callB call_lenA (by rfl) T.n_len (by decide +kernel) (pa_cons (pv 3) pa_nil)) pa_nil))) (fun _ _ => rfl))) (pss_cons (ps_set (i := 9) sc__law_rearranged.nd rfl (Or.inl rfl) (pe_op op_sub (pe_c c__law_draw hr (by decide) rfl (pa_cons (pv 0) (pa_cons (pe_op op_addA (pe_op op_mulA pe_int (pv 2)) pe_int) pa_nil))) (pv 2))) (pss_cons (ps_set (i := 4) sc__law_rearranged.nd rfl (Or.inl rfl) (pe_op op_addA (pv 4) (pe_op op_mulA (pv 9) (pe_op op_sub (pe_ix ix_seq (pv 7) pe_int (fun _ _ => rfl)) (pe_ix ix_seq (pv 8) pe_int (fun _ _ => rfl)))))) (pss_one (ps_set (i := 5) sc__law_rearranged.nd rfl (Or.inl rfl) (pe_op op_addA (pv 5) (pe_op op_mulA (pv 9) (pe_op op_sub (pe_ix ix_seq (pv 7) pe_int (fun _ _ => rfl)) (pe_ix ix_seq (pv 8) pe_int (fun _ _ => rfl)))))))))))) (pss_cons (ps_if (pt_cmpR (op_eqA hr.units) (pe_c c__law_draw hr (by decide) rfl (pa_cons (pv 0) (pa_cons pe_int pa_nil))) pe_int (nomark _)) (pss_cons (ps_set (i := 4) sc__law_rearranged.nd rfl (Or.inl rfl) (pe_op op_sub (pe_op op_addA (pv 4) (pe_c c__law_draw hr (by decide) rfl (pa_cons (pv 0) (pa_cons pe_int pa_nil)))) pe_int)) (pss_one (ps_set (i := 5) sc__law_rearranged.nd rfl (Or.inl rfl) (pe_op op_sub (pe_op op_addA (pv 5) (pe_c c__law_draw hr (by decide) rfl (pa_cons (pv 0) (pa_cons pe_int pa_nil)))) pe_int)))) pss_nil) (pss_one (ps_ret (pe_c c_closedE hr (by decide) rfl (pa_cons (pe_tup (pa_cons (pv 4) (pa_cons (pv 5) pa_nil))) (pa_cons (pe_c c__law_shuffled hr (by decide) rfl (pa_cons (pv 0) (pa_cons (pv 3) pa_nil))) pa_nil))))))))), enter h ?_⟩)
  try dsimp only [cxOf, Cx.nox, Cx.wish]
  rintro ⟨a, ps, reach, n⟩ ds M ⟨rfl, hc0, h3, h8, hb, r0, r1, hn⟩
  dsimp only at *
  have p100 : (2 : Int) ^ 100 = 1267650600228229401496703205376 := by decide
  have p40 : (2 : Int) ^ 40 = 1099511627776 := by decide
  have p30 : (2 : Int) ^ 30 = 1073741824 := by decide
  have p20 : (2 : Int) ^ 20 = 1048576 := by decide
  have p9 : (10 : Int) ^ 9 = 1000000000 := by decide
  have p6 : (10 : Int) ^ 6 = 1000000 := by decide
  rw [p20] at hn
  rw [p6] at r1
  rw [p9] at hb
  have H1 : ∀ {c' : Cell} {k : Int}, IsSrc k c' → ∃ c, put M a c' a = some c ∧ IsSrc k c := fun h => ⟨_, put_same, h⟩
  have hS : Bd 2000000000 (sticksP ps) := bd_sticks hb (by decide)
  have lS : (sticksP ps).length = ps.length := sticksP_length
  refine sx_seq (sx_set (ex_cb (ax_cons (ex_callP (ax_cons (ex_var rfl (ax_nil ⟨ps, rfl, h8, ax_nil (cx_list (.inl ⟨.inr (.inr rfl), rfl⟩) ?_)⟩)))))))
  refine sx_seq (sx_asg (ex_op (ex_var rfl (ex_int (rx_ix_tup (pt_at (by omega)) ?_)))))
  refine gx_tup rfl (gxs_cons (gx_name (gxs_cons (gx_name (gxs_nil ?_)))))
  have b0 := hb _ (ptD_mem (qs := ps) (i := 0) (by omega))
  generalize ptD ps 0 = p0 at b0 ⊢
  obtain ⟨px, py⟩ := p0
  dsimp only at b0
  refine sx_seqc (fun ρ' M' => ∃ (x y : Int) (o6 o7 o8 o9 : Option Dt) (c' : Cell), ρ' = [some (.raw (.ref a)), some (Pts ps), some (.int reach), some (Lps (sticksP ps)), some (.int x), some (.int y), o6, o7, o8, o9] ∧ -(1000000000 + 3 * 4000000000000000) ≤ x ∧ x ≤ 1000000000 + 3 * 4000000000000000 ∧ -(1000000000 + 3 * 4000000000000000) ≤ y ∧ y ≤ 1000000000 + 3 * 4000000000000000 ∧ M' = put M a c' ∧ IsSrc (n + 13) c') (sx_for (ix_rng1 (ax_cons (ex_draw (n := n) (b := 4) (a := a) rfl hc0 (by decide) (by decide) (by omega) (by walk_at "w"; exact ⟨rfl, rfl⟩) fun k c1 k0 k1 hc1 => ?_)))) ?_
  · refine ax_nil ⟨k, rfl, by omega, by omega, fun i ρ' M' => ∃ (x y : Int) (o6 o7 o8 o9 : Option Dt) (c' : Cell), ρ' = [some (.raw (.ref a)), some (Pts ps), some (.int reach), some (Lps (sticksP ps)), some (.int x), some (.int y), o6, o7, o8, o9] ∧ -(1000000000 + (i : Int) * 4000000000000000) ≤ x ∧ x ≤ 1000000000 + (i : Int) * 4000000000000000 ∧ -(1000000000 + (i : Int) * 4000000000000000) ≤ y ∧ y ≤ 1000000000 + (i : Int) * 4000000000000000 ∧ M' = put M a c' ∧ IsSrc (n + 1 + 3 * i) c',
      ⟨px, py, _, _, _, _, c1, rfl, by omega, by omega, by omega, by omega, rfl, hc1.mono (by omega)⟩, fun _ _ _ _ _ => trivial, ?_, ?_⟩
    · rintro i d ρ' M' hi ⟨x, y, o6, o7, o8, o9, c', rfl, x0, x1, y0, y1, rfl, hc'⟩
      obtain ⟨hi2, rfl⟩ := rng_get hi
      refine gx_name ?_
      refine sx_seq (sx_set (ex_op (ex_var rfl (ex_draw (n := n + 1 + 3 * i) (b := ((sticksP ps).length : Int)) (a := a) rfl (H1 hc') (by omega) (by omega) (by omega) (ax_cons (ex_var rfl (ax_cons (ex_cb (ax_cons (ex_var rfl (ax_nil (cx_len_lst (ax_nil ⟨congrArg (fun z : Nat => [Dt.raw (.ref a), .int (z : Int)]) (List.length_map _), rfl⟩))))))))) fun d1 c2 d10 d11 hc2 => ?_))))
      rw [put_put]
      obtain ⟨k1', rfl⟩ := Int.eq_ofNat_of_zero_le d10
      have hk1 : k1' < (sticksP ps).length := by omega
      refine rx_ix_lst (atI_at (j := k1') (by rw [List.getElem?_map, ptD_get hk1] <;> rfl)) ?_
      refine sx_seq (sx_set (ex_op (ex_var rfl (ex_draw (n := n + 1 + 3 * i + 1) (b := ((sticksP ps).length : Int)) (a := a) rfl (H1 hc2) (by omega) (by omega) (by omega) (ax_cons (ex_var rfl (ax_cons (ex_cb (ax_cons (ex_var rfl (ax_nil (cx_len_lst (ax_nil ⟨congrArg (fun z : Nat => [Dt.raw (.ref a), .int (z : Int)]) (List.length_map _), rfl⟩))))))))) fun d2 c3 d20 d21 hc3 => ?_))))
      rw [put_put]
      obtain ⟨k2, rfl⟩ := Int.eq_ofNat_of_zero_le d20
      have hk2 : k2 < (sticksP ps).length := by omega
      refine rx_ix_lst (atI_at (j := k2) (by rw [List.getElem?_map, ptD_get hk2] <;> rfl)) ?_
      have bs1 := hS _ (ptD_mem hk1)
      have bs2 := hS _ (ptD_mem hk2)
      generalize ptD (sticksP ps) k1' = s1 at bs1 ⊢
      generalize ptD (sticksP ps) k2 = s2 at bs2 ⊢
      refine sx_seq (sx_set (ex_op ?_))
      refine ex_draw (n := n + 1 + 3 * i + 1 + 1) (b := 2 * reach + 1) (a := a) rfl (H1 hc3) (by omega) (by omega) (by omega) (by walk_at "w"; exact ⟨rfl, rfl⟩) fun am c4 a0 a1 hc4 => ?_
      rw [put_put]
      walk_at "w"
      have t1 := amt (m := am - reach) (d := s1.1 - s2.1) (by omega) (by omega) (by omega) (by omega)
      have t2 := amt (m := am - reach) (d := s1.2 - s2.2) (by omega) (by omega) (by omega) (by omega)
      refine rx_mul_int (cmul_e t1.2.2.1 t1.2.2.2) ?_
      walk_at "w"
      refine rx_mul_int (cmul_e t2.2.2.1 t2.2.2.2) ?_
      walk_at "w"
      refine ⟨_, _, _, _, _, _, c4, rfl, by omega, by omega, by omega, by omega, rfl, hc4.mono (by omega)⟩
    · rintro ρ' M' ⟨x, y, o6, o7, o8, o9, c', rfl, x0, x1, y0, y1, rfl, hc'⟩
      rw [rng_len] at x0 x1 y0 y1 hc'
      refine ⟨x, y, o6, o7, o8, o9, c', rfl, by omega, by omega, by omega, by omega, rfl, hc'.mono (by omega)⟩
  · rintro ρ' M' ⟨x, y, o6, o7, o8, o9, c', rfl, x0, x1, y0, y1, rfl, hc'⟩
    refine sx_seqc (fun ρ' M' => ∃ (x y : Int) (c' : Cell), ρ' = [some (.raw (.ref a)), some (Pts ps), some (.int reach), some (Lps (sticksP ps)), some (.int x), some (.int y), o6, o7, o8, o9] ∧ -(1000000001 + 3 * 4000000000000000) ≤ x ∧ x ≤ 1000000001 + 3 * 4000000000000000 ∧ -(1000000001 + 3 * 4000000000000000) ≤ y ∧ y ≤ 1000000001 + 3 * 4000000000000000 ∧ M' = put M a c' ∧ IsSrc (n + 16) c') ?_ ?_
    · refine sx_if (tx_test (ex_op (ex_draw (n := n + 13) (b := 3) (a := a) rfl (H1 hc') (by decide) (by decide) (by omega) (by walk_at "w"; exact ⟨rfl, rfl⟩) fun z c2 z0 z1 hc2 => ?_)))
      rw [put_put]
      refine ex_int (rx_eq_int ⟨_, rfl, fun hw => ?_, fun hw => ?_⟩)
      · refine sx_seq (sx_set (ex_op (ex_op (ex_var rfl (ex_draw (n := n + 13 + 1) (b := 3) (a := a) rfl (H1 hc2) (by decide) (by decide) (by omega) (by walk_at "w"; exact ⟨rfl, rfl⟩) fun e1 c3 e10 e11 hc3 => ?_)))))
        rw [put_put]
        walk_at "w"
        refine ex_draw (n := n + 13 + 1 + 1) (b := 3) (a := a) rfl (H1 hc3) (by decide) (by decide) (by omega) (by walk_at "w"; exact ⟨rfl, rfl⟩) fun e2 c4 e20 e21 hc4 => ?_
        rw [put_put]
        walk_at "w"
        exact ⟨_, _, c4, rfl, by omega, by omega, by omega, by omega, rfl, hc4.mono (by omega)⟩
      · exact sx_next ⟨x, y, c2, rfl, by omega, by omega, by omega, by omega, rfl, hc2.mono (by omega)⟩
    · rintro ρ' M' ⟨x, y, c', rfl, x0, x1, y0, y1, rfl, hc'⟩
      refine sx_ret (ex_callP (ax_cons (ex_tup (ax_cons (ex_var rfl (ax_cons (ex_var rfl (ax_nil ⟨Nat.le_of_ble_eq_true rfl, ?_⟩))))))))
      refine ax_cons (ex_call (ax_cons (ex_var rfl (ax_cons (ex_var rfl (ax_nil ⟨(a, (sticksP ps).map P2, n + 16), ⟨rfl, H1 hc', by rw [List.length_map]; omega, by dsimp only; omega⟩, ?_⟩))))))
      rintro d M5 ⟨ys, c5, rfl, hp, rfl, hc5⟩
      obtain ⟨ss, rfl, hp2⟩ := perm_pts hp
      clear hp
      dsimp only at hc5
      rw [put_put]
      have ls : ss.length = ps.length := by rw [hp2.length_eq, lS]
      refine ax_nil ⟨((x, y), ss), rfl, ⟨by dsimp only; omega, by dsimp only; omega⟩, put M a c5, Sub.refl _, closP (x, y) ss.dropLast, c5, rfl, ?_, rfl, hc5.mono (by rw [List.length_map]; omega)⟩
      refine polyB_clos (A := 13000000000000000) (D := 2000000000) h3 h8 hp2 hS (by dsimp only; omega) (by decide) (by decide)
end
end Wk
namespace Wk
open PySem L2 Evl
local macro_rules | `(tactic| walk_at "w1") => `(tactic| first
  | ((with_reducible refine' ex_var ?hv ?_); (case hv => rfl))
  | ((with_reducible refine' rx_ix_tup ?hv ?_); (case hv => rfl))
  | ((with_reducible refine' rx_ix_lst ?hv ?_); (case hv => rfl))
  | ((with_reducible refine' gx_tup ?hv ?_); (case hv => rfl))
  | ((with_reducible refine' rx_ix_cell ?hm ?hv ?_); (case hm => first | assumption | exact put_same); (case hv => rfl))
  | ((with_reducible refine' cx_len_cell ?hm ?_); (case hm => first | assumption | exact put_same))
  | ((with_reducible refine' rx_Ii ?hc ?_); (case hc => first | assumption | exact ⟨by decide, by decide +kernel⟩ | (show (0 : Int) < _; omega) | (show (0 : Int) < _; decide)))
  | ((with_reducible refine' rx_mul_int ?hc ?_); (case hc => first | assumption | exact cmul_l (by decide) (by decide) | exact cmul_r (by decide) (by decide)))
  | with_reducible refine ex_int ?_
  | with_reducible refine ex_str ?_
  | with_reducible refine ex_bl ?_
  | with_reducible refine ex_non ?_
  | with_reducible refine ex_raw ?_
  | with_reducible refine ex_op ?_
  | with_reducible refine ex_un ?_
  | with_reducible refine ex_cb ?_
  | with_reducible refine ex_tup ?_
  | with_reducible refine ex_sl ?_
  | with_reducible refine ox_none ?_
  | with_reducible refine ox_some ?_
  | with_reducible refine ax_nil ?_
  | with_reducible refine ax_cons ?_
  | with_reducible refine ex_if ?_
  | with_reducible refine ex_andV ?_
  | with_reducible refine ex_orV ?_
  | with_reducible refine ex_notV ?_
  | with_reducible refine ex_m0 ?_
  | with_reducible refine ex_m1 ?_
  | with_reducible refine tx_test ?_
  | with_reducible refine tx_B ?_
  | with_reducible refine tx_and ?_
  | with_reducible refine tx_or ?_
  | with_reducible refine tx_not ?_
  | with_reducible refine tx_yes ?_
  | with_reducible refine sx_seq ?_
  | with_reducible refine sx_set ?_
  | with_reducible refine sx_ret ?_
  | with_reducible refine sx_drop ?_
  | with_reducible refine sx_next ?_
  | with_reducible refine sx_if ?_
  | with_reducible refine sx_retN ?_
  | with_reducible refine sx_asg ?_
  | with_reducible refine sx_par ?_
  | with_reducible refine gx_name ?_
  | with_reducible refine gxs_cons ?_
  | with_reducible refine gxs_nil ?_
  | with_reducible refine rx_add_int ?_
  | with_reducible refine rx_I0i ?_
  | with_reducible refine rx_I0b ?_
  | with_reducible refine rx_eq_int ?_
  | with_reducible refine rx_ne_int ?_
  | with_reducible refine rx_eq_str ?_
  | with_reducible refine rx_ne_str ?_
  | with_reducible refine rx_eq_bl ?_
  | with_reducible refine rx_ne_bl ?_
  | with_reducible refine lx_tup ?_
  | with_reducible refine lx_lst ?_
  | with_reducible refine cx_len_tup ?_
  | with_reducible refine cx_len_lst ?_
  | with_reducible refine cx_len_frl ?_
  | with_reducible refine cx_max2 ?_
  | with_reducible refine ux_neg ?_
  | with_reducible refine cx_list_lst ?_
  | with_reducible refine cx_tuple_lst ?_
  | with_reducible refine cx_tuple_tup ?_
  | with_reducible refine mx_isdigit ?_
  | with_reducible refine mx_startswith ?_
  | with_reducible refine ix_any ?_
  | with_reducible refine And.intro (Nat.le_of_ble_eq_true rfl) ?_
  | refine Exists.intro _ (And.intro rfl ?_))
local macro_rules | `(tactic| walk_at "w") => `(tactic| repeat (walk_at "w1"))
section
variable {P : Program} {w : World} {K : PySem.W.Frag} {mg : Str → Option Value} {base : Heap} {C WE BP BT NC BJ S BW TM TF BS UN NP UF DP DF J UR SC JC CG RB RS FJ f g : Addr} {fd : FuncData}
theorem ok_is_count {f : Addr} {fd : FuncData} (F : Fun K "is_count" "is_count" s_is_count f fd) (T : Tx K mg C)  : FnOk P w K mg base CX0 1 f fd ["word"] (spCount K) := by
  refine F.ok sc_is_count (spD_len (n := 1) (fun x ds M h => by rw [h.1] <;> rfl)) (fun cdv A outer s H vs Q E hr h => ⟨_, (pss_one (ps_ret (pe_or (pe_cmpR (op_eqA hr.units) (pv 0) pe_str (nomark _)) (pe_one (pe_and (pe_m0 PySem.F.slot_str_isdigit PySem.F.type_str_isdigit mt_isdigit (pv 0)) (pe_one (pe_cmpR (op_neA hr.units) (pe_ix ix_seq (pv 0) pe_int (fun _ _ => rfl)) pe_str (nomark _)))))))), enter h ?_⟩)
  try dsimp only [cxOf, Cx.nox, Cx.wish]
  rintro x ds M ⟨rfl, hx⟩
  have hl : x.length ≤ sizeLine := Nat.le_trans hx (by decide)
  walk_at "w"
  refine ⟨fun h => ?_, fun h => ?_⟩
  · exact ret_pure (by unfold countF; rw [h, Bool.true_or]) (Sub.refl M)
  · walk_at "w"
    refine ⟨⟨x, rfl⟩, ?_⟩
    walk_at "w"
    refine ⟨fun hd => ?_, fun hd => ?_⟩
    · have hn : TL.tl x ≠ [] := fun e => by
        unfold Txt.isdigit at hd
        rw [Bool.and_eq_true] at hd
        have q := of_decide_eq_true hd.1
        rw [TL.len_tl, e] at q
        exact absurd q (by decide)
      obtain ⟨c, r, e⟩ := List.exists_cons_of_ne_nil hn
      walk_at "w"
      refine rx_ix_str (c := c) hl (atI_at (j := 0) (by rw [show x.cps.toList = c :: r from e] <;> rfl)) ?_
      walk_at "w"
      refine ret_pure ?_ (Sub.refl M)
      unfold countF headS
      rw [h, hd, Bool.false_or, Bool.true_and, e] <;> rfl
    · exact ret_pure (by unfold countF; rw [h, hd, Bool.false_and, Bool.or_self]) (Sub.refl M)
end
end Wk
namespace Wk
open PySem L2 Evl
local macro_rules | `(tactic| walk_at "w1") => `(tactic| first
  | ((with_reducible refine' ex_var ?hv ?_); (case hv => rfl))
  | ((with_reducible refine' rx_ix_tup ?hv ?_); (case hv => rfl))
  | ((with_reducible refine' rx_ix_lst ?hv ?_); (case hv => rfl))
  | ((with_reducible refine' gx_tup ?hv ?_); (case hv => rfl))
  | ((with_reducible refine' rx_ix_cell ?hm ?hv ?_); (case hm => first | assumption | exact put_same); (case hv => rfl))
  | ((with_reducible refine' cx_len_cell ?hm ?_); (case hm => first | assumption | exact put_same))
  | ((with_reducible refine' rx_Ii ?hc ?_); (case hc => first | assumption | exact ⟨by decide, by decide +kernel⟩ | (show (0 : Int) < _; omega) | (show (0 : Int) < _; decide)))
  | ((with_reducible refine' rx_mul_int ?hc ?_); (case hc => first | assumption | exact cmul_l (by decide) (by decide) | exact cmul_r (by decide) (by decide)))
  | with_reducible refine ex_int ?_
  | with_reducible refine ex_str ?_
  | with_reducible refine ex_bl ?_
  | with_reducible refine ex_non ?_
  | with_reducible refine ex_raw ?_
  | with_reducible refine ex_op ?_
  | with_reducible refine ex_un ?_
  | with_reducible refine ex_cb ?_
  | with_reducible refine ex_tup ?_
  | with_reducible refine ex_sl ?_
  | with_reducible refine ox_none ?_
  | with_reducible refine ox_some ?_
  | with_reducible refine ax_nil ?_
  | with_reducible refine ax_cons ?_
  | with_reducible refine ex_if ?_
  | with_reducible refine ex_andV ?_
  | with_reducible refine ex_orV ?_
  | with_reducible refine ex_notV ?_
  | with_reducible refine ex_m0 ?_
  | with_reducible refine ex_m1 ?_
  | with_reducible refine tx_test ?_
  | with_reducible refine tx_B ?_
  | with_reducible refine tx_and ?_
  | with_reducible refine tx_or ?_
  | with_reducible refine tx_not ?_
  | with_reducible refine tx_yes ?_
  | with_reducible refine sx_seq ?_
  | with_reducible refine sx_set ?_
  | with_reducible refine sx_ret ?_
  | with_reducible refine sx_drop ?_
  | with_reducible refine sx_next ?_
  | with_reducible refine sx_if ?_
  | with_reducible refine sx_retN ?_
  | with_reducible refine sx_asg ?_
  | with_reducible refine sx_par ?_
  | with_reducible refine gx_name ?_
  | with_reducible refine gxs_cons ?_
  | with_reducible refine gxs_nil ?_
  | with_reducible refine rx_add_int ?_
  | with_reducible refine rx_I0i ?_
  | with_reducible refine rx_I0b ?_
  | with_reducible refine rx_eq_int ?_
  | with_reducible refine rx_ne_int ?_
  | with_reducible refine rx_eq_str ?_
  | with_reducible refine rx_ne_str ?_
  | with_reducible refine rx_eq_bl ?_
  | with_reducible refine rx_ne_bl ?_
  | with_reducible refine lx_tup ?_
  | with_reducible refine lx_lst ?_
  | with_reducible refine cx_len_tup ?_
  | with_reducible refine cx_len_lst ?_
  | with_reducible refine cx_len_frl ?_
  | with_reducible refine cx_max2 ?_
  | with_reducible refine ux_neg ?_
  | with_reducible refine cx_list_lst ?_
  | with_reducible refine cx_tuple_lst ?_
  | with_reducible refine cx_tuple_tup ?_
  | with_reducible refine mx_isdigit ?_
  | with_reducible refine mx_startswith ?_
  | with_reducible refine ix_any ?_
  | with_reducible refine And.intro (Nat.le_of_ble_eq_true rfl) ?_
  | refine Exists.intro _ (And.intro rfl ?_))
local macro_rules | `(tactic| walk_at "w") => `(tactic| repeat (walk_at "w1"))
section
variable {P : Program} {w : World} {K : PySem.W.Frag} {mg : Str → Option Value} {base : Heap} {C WE BP BT NC BJ S BW TM TF BS UN NP UF DP DF J UR SC JC CG RB RS FJ f g : Addr} {fd : FuncData}
theorem ok_is_number {f : Addr} {fd : FuncData} (F : Fun K "is_number" "is_number" s_is_number f fd) (T : Tx K mg C) (c_is_count : Cal P w K mg base 1 "is_count" (spCount K)) : FnOk P w K mg base CX0 2 f fd ["word"] (spNumber K) := by
  refine F.ok sc_is_number (spD_len (n := 1) (fun x ds M h => by rw [h.1] <;> rfl)) (fun cdv A outer s H vs Q E hr h => ⟨_, (pss_one (ps_ret (pe_or (pe_c c_is_count hr (by decide) rfl (pa_cons (pv 0) pa_nil)) (pe_one (pe_and (pe_m1 PySem.F.slot_str_startswith PySem.F.type_str_startswith mt_startswith (pv 0) pe_str) (pe_and (pe_cmpR (op_neA hr.units) (pv 0) pe_str (nomark _)) (pe_one (pe_c c_is_count hr (by decide) rfl (pa_cons (pe_slice sl_any (pv 0) (po_some pe_int) po_none) pa_nil))))))))), enter h ?_⟩)
  try dsimp only [cxOf, Cx.nox, Cx.wish]
  rintro x ds M ⟨rfl, hx⟩
  have hl : x.length ≤ sizeLine := Nat.le_trans hx (by decide)
  walk_at "w"
  refine ex_callP ?_
  walk_at "w"
  refine ⟨hx, _, rfl, fun h => ?_, fun h => ?_⟩
  · exact ret_pure (by unfold numF; rw [h, Bool.true_or]) (Sub.refl M)
  · walk_at "w"
    refine ⟨⟨x, rfl⟩, ?_⟩
    walk_at "w"
    refine ⟨fun hd => ?_, fun hd => ?_⟩
    · walk_at "w"
      refine ⟨fun he => ?_, fun he => ?_⟩
      · refine ex_callP ?_
        walk_at "w"
        refine lx_str hl ?_
        walk_at "w"
        refine ⟨Nat.le_trans (cutS_length x _ _) hx, ?_⟩
        refine ret_pure ?_ (Sub.refl M)
        unfold numF
        rw [h, hd, he, Bool.false_or, Bool.true_and, Bool.true_and]
      · exact ret_pure (by unfold numF; rw [h, hd, he, Bool.false_and, Bool.true_and, Bool.or_self]) (Sub.refl M)
    · exact ret_pure (by unfold numF; rw [h, hd, Bool.false_and, Bool.or_self]) (Sub.refl M)
end
end Wk
namespace Wk
open PySem L2 Evl
local macro_rules | `(tactic| walk_at "w1") => `(tactic| first
  | ((with_reducible refine' ex_var ?hv ?_); (case hv => rfl))
  | ((with_reducible refine' rx_ix_tup ?hv ?_); (case hv => rfl))
  | ((with_reducible refine' rx_ix_lst ?hv ?_); (case hv => rfl))
  | ((with_reducible refine' gx_tup ?hv ?_); (case hv => rfl))
  | ((with_reducible refine' rx_ix_cell ?hm ?hv ?_); (case hm => first | assumption | exact put_same); (case hv => rfl))
  | ((with_reducible refine' cx_len_cell ?hm ?_); (case hm => first | assumption | exact put_same))
  | ((with_reducible refine' rx_Ii ?hc ?_); (case hc => first | assumption | exact ⟨by decide, by decide +kernel⟩ | (show (0 : Int) < _; omega) | (show (0 : Int) < _; decide)))
  | ((with_reducible refine' rx_mul_int ?hc ?_); (case hc => first | assumption | exact cmul_l (by decide) (by decide) | exact cmul_r (by decide) (by decide)))
  | with_reducible refine ex_int ?_
  | with_reducible refine ex_str ?_
  | with_reducible refine ex_bl ?_
  | with_reducible refine ex_non ?_
  | with_reducible refine ex_raw ?_
  | with_reducible refine ex_op ?_
  | with_reducible refine ex_un ?_
  | with_reducible refine ex_cb ?_
  | with_reducible refine ex_tup ?_
  | with_reducible refine ex_sl ?_
  | with_reducible refine ox_none ?_
  | with_reducible refine ox_some ?_
  | with_reducible refine ax_nil ?_
  | with_reducible refine ax_cons ?_
  | with_reducible refine ex_if ?_
  | with_reducible refine ex_andV ?_
  | with_reducible refine ex_orV ?_
  | with_reducible refine ex_notV ?_
  | with_reducible refine ex_m0 ?_
  | with_reducible refine ex_m1 ?_
  | with_reducible refine tx_test ?_
  | with_reducible refine tx_B ?_
  | with_reducible refine tx_and ?_
  | with_reducible refine tx_or ?_
  | with_reducible refine tx_not ?_
  | with_reducible refine tx_yes ?_
  | with_reducible refine sx_seq ?_
  | with_reducible refine sx_set ?_
  | with_reducible refine sx_ret ?_
  | with_reducible refine sx_drop ?_
  | with_reducible refine sx_next ?_
  | with_reducible refine sx_if ?_
  | with_reducible refine sx_retN ?_
  | with_reducible refine sx_asg ?_
  | with_reducible refine sx_par ?_
  | with_reducible refine gx_name ?_
  | with_reducible refine gxs_cons ?_
  | with_reducible refine gxs_nil ?_
  | with_reducible refine rx_add_int ?_
  | with_reducible refine rx_I0i ?_
  | with_reducible refine rx_I0b ?_
  | with_reducible refine rx_eq_int ?_
  | with_reducible refine rx_ne_int ?_
  | with_reducible refine rx_eq_str ?_
  | with_reducible refine rx_ne_str ?_
  | with_reducible refine rx_eq_bl ?_
  | with_reducible refine rx_ne_bl ?_
  | with_reducible refine lx_tup ?_
  | with_reducible refine lx_lst ?_
  | with_reducible refine cx_len_tup ?_
  | with_reducible refine cx_len_lst ?_
  | with_reducible refine cx_len_frl ?_
  | with_reducible refine cx_max2 ?_
  | with_reducible refine ux_neg ?_
  | with_reducible refine cx_list_lst ?_
  | with_reducible refine cx_tuple_lst ?_
  | with_reducible refine cx_tuple_tup ?_
  | with_reducible refine mx_isdigit ?_
  | with_reducible refine mx_startswith ?_
  | with_reducible refine ix_any ?_
  | with_reducible refine And.intro (Nat.le_of_ble_eq_true rfl) ?_
  | refine Exists.intro _ (And.intro rfl ?_))
local macro_rules | `(tactic| walk_at "w") => `(tactic| repeat (walk_at "w1"))
section
variable {P : Program} {w : World} {K : PySem.W.Frag} {mg : Str → Option Value} {base : Heap} {C WE BP BT NC BJ S BW TM TF BS UN NP UF DP DF J UR SC JC CG RB RS FJ f g : Addr} {fd : FuncData}
theorem ok_read_points {f : Addr} {fd : FuncData} (F : Fun K "read_points" "read_points" s_read_points f fd) (T : Tx K mg C) (c_is_number : Cal P w K mg base 2 "is_number" (spNumber K)) : FnOk P w K mg base CX0 3 f fd ["text"] (spRead K) := by
  refine F.ok sc_read_points (spD_len (n := 1) (fun x ds M h => by rw [h.1] <;> rfl)) (fun cdv A outer s H vs Q E hr h => ⟨_, (pss_cons (ps_set (i := 1) sc_read_points.nd rfl (Or.inl rfl) (pe_lst pa_nil)) (pss_cons (ps_for PassesOwn.never rfl (pi_enumA rfl T.n_enumerate (pa_cons (pe_split (pv 0) pe_str) pa_nil)) (pg_tup (by rfl) (pgs_cons (pg_name (i := 2) sc_read_points.nd rfl (Or.inl rfl)) (pgs_cons (pg_name (i := 3) sc_read_points.nd rfl (Or.inl rfl)) pgs_nil))) (pss_cons (ps_set (i := 4) sc_read_points.nd rfl (Or.inl rfl) (pe_split (pv 3) pe_str)) (pss_cons (ps_if (PW.pt (pw_or (pt_cmpR (op_neA hr.units) (pe_callB call_lenA (by rfl) T.n_len (by decide +kernel) (pa_cons (pv 4) pa_nil)) pe_int (nomark _)) (pw_or (pt_not (pt_val (pe_c c_is_number hr (by decide) rfl (pa_cons (pe_ix ix_seq (pv 4) pe_int (fun _ _ => rfl)) pa_nil)))) (pw_or1 (pt_not (pt_val (pe_c c_is_number hr (by decide) rfl (pa_cons (pe_ix ix_seq (pv 4) pe_int (fun _ _ => rfl)) pa_nil)))))))) (pss_one ps_never) pss_nil) (pss_one (ps_expr (pe_bm PySem.F.plainAttrs_list PySem.F.slot_list_append PySem.F.type_list_append mt_append (pv 1) (pa_cons (pe_tup (pa_cons (pe_callTy call_int_str (by rfl) T.n_int (by decide +kernel) (pa_cons (pe_ix ix_seq (pv 4) pe_int (fun _ _ => rfl)) pa_nil)) (pa_cons (pe_callTy call_int_str (by rfl) T.n_int (by decide +kernel) (pa_cons (pe_ix ix_seq (pv 4) pe_int (fun _ _ => rfl)) pa_nil)) pa_nil))) pa_nil))))))) (pss_one (ps_ret (pv 1))))), enter h ?_⟩)
  try dsimp only [cxOf, Cx.nox, Cx.wish]
  rintro ps ds M ⟨rfl, hne, hl, hs⟩
  have hlen : (wPs ps).length ≤ 60800 := Nat.le_trans (wPs_len hs) (by omega)
  refine sx_seq (sx_set (ex_lstC ?_))
  walk_at "w"
  refine fun a ha => ?_
  refine sx_seqc (fun ρ' M' => (∃ x y z, ρ' = [some (.str (wPs ps)), some (.raw (.ref a)), x, y, z]) ∧ M' = put M a (.lst (ps.map P2))) (sx_for (ix_enum ?_)) ?_
  · walk_at "w"
    refine ⟨⟨_, rfl⟩, ?_⟩
    walk_at "w"
    refine mx_split (by decide) (Nat.le_trans (Nat.add_le_add_right hlen 2) (by decide)) ?_
    walk_at "w"
    rw [split_wPs hne]
    refine ⟨_, _, _, rfl, .inl ⟨.inl rfl, rfl⟩, fun i ρ' M' => (∃ x y z, ρ' = [some (.str (wPs ps)), some (.raw (.ref a)), x, y, z]) ∧ M' = put M a (.lst ((ps.take i).map P2)), ⟨⟨_, _, _, rfl⟩, rfl⟩, fun _ _ _ _ _ => trivial, ?_, ?_⟩
    · rintro i d ρ' M' hi ⟨⟨x, y, z, rfl⟩, rfl⟩
      obtain ⟨e, hx, rfl⟩ := enumD_inv hi
      rw [List.getElem?_map, List.getElem?_map] at hx
      obtain ⟨w, hw, rfl⟩ := Option.map_eq_some_iff.mp hx
      obtain ⟨p, hp, rfl⟩ := Option.map_eq_some_iff.mp hw
      have hlt := (List.getElem?_eq_some_iff.mp hp).1
      have hps := hs p (List.mem_of_getElem? hp)
      have l1 := wI_len hps.1
      have l2 := wI_len hps.2
      have lp := wP_len hps
      walk_at "w"
      refine ⟨⟨_, rfl⟩, ?_⟩
      walk_at "w"
      refine mx_split (by decide) (Nat.le_trans (Nat.add_le_add_right lp 2) (by decide)) ?_
      rw [split_wP]
      walk_at "w"
      refine ⟨fun h => ?_, fun h => ?_⟩
      · exact absurd h (by simp)
      · walk_at "w"
        refine ex_callP ?_
        walk_at "w"
        refine ⟨by omega, _, rfl, fun h => ?_, fun h => ?_⟩
        · rw [num_wI] at h
          cases h
        · walk_at "w"
          refine ex_callP ?_
          walk_at "w"
          refine ⟨by omega, _, rfl, fun h => ?_, fun h => ?_⟩
          · rw [num_wI] at h
            cases h
          · walk_at "w"
            refine ex_append (a := a) ?_
            walk_at "w"
            refine ⟨rfl, _, put_same, ?_⟩
            walk_at "w"
            refine cx_int (wI_int hps.1) (by omega) ?_
            walk_at "w"
            refine cx_int (wI_int hps.2) (by omega) ?_
            walk_at "w"
            refine ⟨_, _, rfl, put_same, ?_, ?_⟩
            · rw [List.length_map, List.length_take]
              exact Nat.lt_of_le_of_lt (Nat.min_le_right _ _) (Nat.lt_of_le_of_lt hl (by decide))
            · refine ⟨⟨_, _, _, rfl⟩, ?_⟩
              rw [put_put, List.take_succ_eq_append_getElem hlt, List.map_append]
              have e := (List.getElem?_eq_some_iff.mp hp).2
              rw [e] <;> rfl
    · rintro ρ' M' ⟨⟨x, y, z, rfl⟩, rfl⟩
      refine ⟨⟨_, _, _, rfl⟩, ?_⟩
      rw [enumD_len, List.length_map, List.length_map, List.take_length]
  · rintro ρ' M' ⟨⟨x, y, z, rfl⟩, rfl⟩
    refine sx_ret (ex_frz ?_)
    walk_at "w"
    exact ⟨a, _, rfl, put_same, ret_pure rfl (del_put_sub (Sub.refl M) ha)⟩
end
end Wk
namespace Wk
open PySem L2 Evl
local macro_rules | `(tactic| walk_at "w1") => `(tactic| first
  | ((with_reducible refine' ex_var ?hv ?_); (case hv => rfl))
  | ((with_reducible refine' rx_ix_tup ?hv ?_); (case hv => rfl))
  | ((with_reducible refine' rx_ix_lst ?hv ?_); (case hv => rfl))
  | ((with_reducible refine' gx_tup ?hv ?_); (case hv => rfl))
  | ((with_reducible refine' rx_ix_cell ?hm ?hv ?_); (case hm => first | assumption | exact put_same); (case hv => rfl))
  | ((with_reducible refine' cx_len_cell ?hm ?_); (case hm => first | assumption | exact put_same))
  | ((with_reducible refine' rx_Ii ?hc ?_); (case hc => first | assumption | exact ⟨by decide, by decide +kernel⟩ | (show (0 : Int) < _; omega) | (show (0 : Int) < _; decide)))
  | ((with_reducible refine' rx_mul_int ?hc ?_); (case hc => first | assumption | exact cmul_l (by decide) (by decide) | exact cmul_r (by decide) (by decide)))
  | with_reducible refine ex_int ?_
  | with_reducible refine ex_str ?_
  | with_reducible refine ex_bl ?_
  | with_reducible refine ex_non ?_
  | with_reducible refine ex_raw ?_
  | with_reducible refine ex_op ?_
  | with_reducible refine ex_un ?_
  | with_reducible refine ex_cb ?_
  | with_reducible refine ex_tup ?_
  | with_reducible refine ex_sl ?_
  | with_reducible refine ox_none ?_
  | with_reducible refine ox_some ?_
  | with_reducible refine ax_nil ?_
  | with_reducible refine ax_cons ?_
  | with_reducible refine ex_if ?_
  | with_reducible refine ex_andV ?_
  | with_reducible refine ex_orV ?_
  | with_reducible refine ex_notV ?_
  | with_reducible refine ex_m0 ?_
  | with_reducible refine ex_m1 ?_
  | with_reducible refine tx_test ?_
  | with_reducible refine tx_B ?_
  | with_reducible refine tx_and ?_
  | with_reducible refine tx_or ?_
  | with_reducible refine tx_not ?_
  | with_reducible refine tx_yes ?_
  | with_reducible refine sx_seq ?_
  | with_reducible refine sx_set ?_
  | with_reducible refine sx_ret ?_
  | with_reducible refine sx_drop ?_
  | with_reducible refine sx_next ?_
  | with_reducible refine sx_if ?_
  | with_reducible refine sx_retN ?_
  | with_reducible refine sx_asg ?_
  | with_reducible refine sx_par ?_
  | with_reducible refine gx_name ?_
  | with_reducible refine gxs_cons ?_
  | with_reducible refine gxs_nil ?_
  | with_reducible refine rx_add_int ?_
  | with_reducible refine rx_I0i ?_
  | with_reducible refine rx_I0b ?_
  | with_reducible refine rx_eq_int ?_
  | with_reducible refine rx_ne_int ?_
  | with_reducible refine rx_eq_str ?_
  | with_reducible refine rx_ne_str ?_
  | with_reducible refine rx_eq_bl ?_
  | with_reducible refine rx_ne_bl ?_
  | with_reducible refine lx_tup ?_
  | with_reducible refine lx_lst ?_
  | with_reducible refine cx_len_tup ?_
  | with_reducible refine cx_len_lst ?_
  | with_reducible refine cx_len_frl ?_
  | with_reducible refine cx_max2 ?_
  | with_reducible refine ux_neg ?_
  | with_reducible refine cx_list_lst ?_
  | with_reducible refine cx_tuple_lst ?_
  | with_reducible refine cx_tuple_tup ?_
  | with_reducible refine mx_isdigit ?_
  | with_reducible refine mx_startswith ?_
  | with_reducible refine ix_any ?_
  | with_reducible refine And.intro (Nat.le_of_ble_eq_true rfl) ?_
  | refine Exists.intro _ (And.intro rfl ?_))
local macro_rules | `(tactic| walk_at "w") => `(tactic| repeat (walk_at "w1"))
section
variable {P : Program} {w : World} {K : PySem.W.Frag} {mg : Str → Option Value} {base : Heap} {C WE BP BT NC BJ S BW TM TF BS UN NP UF DP DF J UR SC JC CG RB RS FJ f g : Addr} {fd : FuncData}
theorem ok_check_pairs {f : Addr} {fd : FuncData} (F : Fun K "check_pairs" "check_pairs" s_check_pairs f fd) (T : Tx K mg C)  : FnOk P w K mg base CX0 1 f fd ["pairs"] (spPairs K) := by
  refine F.ok sc_check_pairs (spD_len (n := 1) (fun x ds M h => by rw [h.1] <;> rfl)) (fun cdv A outer s H vs Q E hr h => ⟨_, (pss_cons (ps_for PassesOwn.never rfl (pi_enumA rfl T.n_enumerate (pa_cons (pv 0) pa_nil)) (pg_tup (by rfl) (pgs_cons (pg_name (i := 1) sc_check_pairs.nd rfl (Or.inl rfl)) (pgs_cons (pg_name (i := 2) sc_check_pairs.nd rfl (Or.inl rfl)) pgs_nil))) (pss_one (ps_if (PW.pt (pw_or (pt_cmpR (op_neA hr.units) (pe_callB call_lenA (by rfl) T.n_len (by decide +kernel) (pa_cons (pv 2) pa_nil)) pe_int (nomark _)) (pw_or1 (pt_cmpR (op_eqA hr.units) (pv 1) (ClX.pe_cval (pe_glob (v := .ref C) rfl T.m_Polygon rfl)) (nomark _))))) (pss_one ps_never) pss_nil))) (pss_one (ps_if (pt_cmpR op_lt (pe_callB call_lenA (by rfl) T.n_len (by decide +kernel) (pa_cons (pv 0) pa_nil)) (pe_glob (v := .int 3) rfl T.m_LEAST.choose_spec ⟨_, rfl⟩) (nomark _)) (pss_one ps_never) pss_nil))), enter h ?_⟩)
  try dsimp only [cxOf, Cx.nox, Cx.wish]
  rintro ps ds M ⟨rfl, h3, h8⟩
  obtain ⟨mc, u, cr, cv⟩ := T.most
  refine sx_seqc (fun ρ' M' => M' = M ∧ ∃ a b, ρ' = [some (Pts ps), a, b]) (sx_for (ix_enum ?_)) ?_
  · walk_at "w"
    refine ⟨_, _, _, rfl, .inl ⟨.inr (.inr rfl), rfl⟩, fun i ρ' M' => M' = M ∧ ∃ a b, ρ' = [some (Pts ps), a, b], ⟨rfl, _, _, rfl⟩, fun _ _ _ _ _ => trivial, ?_, ?_⟩
    · rintro i d ρ' M' hi ⟨rfl, a, b, rfl⟩
      obtain ⟨x, hx, rfl⟩ := enumD_inv hi
      rw [List.getElem?_map] at hx
      obtain ⟨p, hp, rfl⟩ := Option.map_eq_some_iff.mp hx
      have hlt := (List.getElem?_eq_some_iff.mp hp).1
      walk_at "w"
      refine ⟨fun h => ?_, fun h => ?_⟩
      · exact absurd h (by simp)
      · refine tx_test (ex_op ?_)
        walk_at "w"
        refine ex_cval cr cv (fun _ => .int 8) ?_
        walk_at "w"
        refine ⟨rfl, ?_⟩
        walk_at "w"
        refine ⟨fun h => ?_, fun h => ?_⟩
        · exact absurd (dT h) (by omega)
        · walk_at "w"
          exact ⟨rfl, _, _, rfl⟩
    · rintro ρ' M' ⟨rfl, a, b, rfl⟩
      exact ⟨rfl, _, _, rfl⟩
  · rintro ρ' M' ⟨rfl, a, b, rfl⟩
    walk_at "w"
    refine ⟨fun h => ?_, fun h => ?_⟩
    · exact absurd (dT h) (by rw [List.length_map]; omega)
    · walk_at "w"
      exact ⟨_, Sub.refl _, rfl, rfl⟩
end
end Wk
namespace Wk
open PySem L2 Evl
local macro_rules | `(tactic| walk_at "w1") => `(tactic| first
  | ((with_reducible refine' ex_var ?hv ?_); (case hv => rfl))
  | ((with_reducible refine' rx_ix_tup ?hv ?_); (case hv => rfl))
  | ((with_reducible refine' rx_ix_lst ?hv ?_); (case hv => rfl))
  | ((with_reducible refine' gx_tup ?hv ?_); (case hv => rfl))
  | ((with_reducible refine' rx_ix_cell ?hm ?hv ?_); (case hm => first | assumption | exact put_same); (case hv => rfl))
  | ((with_reducible refine' cx_len_cell ?hm ?_); (case hm => first | assumption | exact put_same))
  | ((with_reducible refine' rx_Ii ?hc ?_); (case hc => first | assumption | exact ⟨by decide, by decide +kernel⟩ | (show (0 : Int) < _; omega) | (show (0 : Int) < _; decide)))
  | ((with_reducible refine' rx_mul_int ?hc ?_); (case hc => first | assumption | exact cmul_l (by decide) (by decide) | exact cmul_r (by decide) (by decide)))
  | with_reducible refine ex_int ?_
  | with_reducible refine ex_str ?_
  | with_reducible refine ex_bl ?_
  | with_reducible refine ex_non ?_
  | with_reducible refine ex_raw ?_
  | with_reducible refine ex_op ?_
  | with_reducible refine ex_un ?_
  | with_reducible refine ex_cb ?_
  | with_reducible refine ex_tup ?_
  | with_reducible refine ex_sl ?_
  | with_reducible refine ox_none ?_
  | with_reducible refine ox_some ?_
  | with_reducible refine ax_nil ?_
  | with_reducible refine ax_cons ?_
  | with_reducible refine ex_if ?_
  | with_reducible refine ex_andV ?_
  | with_reducible refine ex_orV ?_
  | with_reducible refine ex_notV ?_
  | with_reducible refine ex_m0 ?_
  | with_reducible refine ex_m1 ?_
  | with_reducible refine tx_test ?_
  | with_reducible refine tx_B ?_
  | with_reducible refine tx_and ?_
  | with_reducible refine tx_or ?_
  | with_reducible refine tx_not ?_
  | with_reducible refine tx_yes ?_
  | with_reducible refine sx_seq ?_
  | with_reducible refine sx_set ?_
  | with_reducible refine sx_ret ?_
  | with_reducible refine sx_drop ?_
  | with_reducible refine sx_next ?_
  | with_reducible refine sx_if ?_
  | with_reducible refine sx_retN ?_
  | with_reducible refine sx_asg ?_
  | with_reducible refine sx_par ?_
  | with_reducible refine gx_name ?_
  | with_reducible refine gxs_cons ?_
  | with_reducible refine gxs_nil ?_
  | with_reducible refine rx_add_int ?_
  | with_reducible refine rx_I0i ?_
  | with_reducible refine rx_I0b ?_
  | with_reducible refine rx_eq_int ?_
  | with_reducible refine rx_ne_int ?_
  | with_reducible refine rx_eq_str ?_
  | with_reducible refine rx_ne_str ?_
  | with_reducible refine rx_eq_bl ?_
  | with_reducible refine rx_ne_bl ?_
  | with_reducible refine lx_tup ?_
  | with_reducible refine lx_lst ?_
  | with_reducible refine cx_len_tup ?_
  | with_reducible refine cx_len_lst ?_
  | with_reducible refine cx_len_frl ?_
  | with_reducible refine cx_max2 ?_
  | with_reducible refine ux_neg ?_
  | with_reducible refine cx_list_lst ?_
  | with_reducible refine cx_tuple_lst ?_
  | with_reducible refine cx_tuple_tup ?_
  | with_reducible refine mx_isdigit ?_
  | with_reducible refine mx_startswith ?_
  | with_reducible refine ix_any ?_
  | with_reducible refine And.intro (Nat.le_of_ble_eq_true rfl) ?_
  | refine Exists.intro _ (And.intro rfl ?_))
local macro_rules | `(tactic| walk_at "w") => `(tactic| repeat (walk_at "w1"))
section
variable {P : Program} {w : World} {K : PySem.W.Frag} {mg : Str → Option Value} {base : Heap} {C WE BP BT NC BJ S BW TM TF BS UN NP UF DP DF J UR SC JC CG RB RS FJ f g : Addr} {fd : FuncData}
theorem b_Polygon_init : BindS "__init__" "Polygon.__init__" s_Polygon_init ["self"] "points" := fun kV dc pm an cd ct us rest hl => match us, rest, hl with
  | [a], [], _ => rfl
  | [a], r :: rs, _ => rfl
theorem ok_Polygon_init {f : Addr} {fd : FuncData} (F : Fun K "__init__" "Polygon.__init__" s_Polygon_init f fd) (T : Tx K mg C) (c_check_pairs : Cal P w K mg base 1 "check_pairs" (spPairs K)) : FnR P w K mg base CX0 2 f (spInit K C) := by
  refine (fun_star F sc_Polygon_init b_Polygon_init (sp := spInitB K C) (fun cdv A outer s H vs Q E hr h => ⟨_, (pss_cons (ps_expr (pe_c c_check_pairs hr (by decide) rfl (pa_cons (pv 1) pa_nil))) (pss_one (ps_fld (pv 0) (pv 1) rfl))), enter h ?_⟩)).imp fun vs H Q E h => starD (n := 1) ?_ h
  · dsimp only [cxOf, Cx.nox, Cx.wish]
    rintro ⟨a, ps⟩ ds M ⟨rfl, hm, h3, h8⟩
    dsimp only at *
    refine sx_seq (sx_drop (ex_callP ?_))
    walk_at "w"
    refine ⟨⟨h3, h8⟩, ?_⟩
    refine sx_fld ?_
    walk_at "w"
    refine ⟨a, C, [], rfl, hm, T.cl, T.nP, by decide, ?_⟩
    exact ⟨_, Sub.refl _, rfl, rfl⟩
  · rintro ⟨a, ps⟩ ds M ⟨rfl, hm, h3, h8⟩
    exact ⟨[.raw (.ref a)], ps.map P2, rfl, rfl, by rw [List.length_map]; exact Nat.le_trans h8 (by decide), rfl, hm, h3, h8⟩
end
end Wk
namespace Wk
open PySem L2 Evl
local macro_rules | `(tactic| walk_at "w1") => `(tactic| first
  | ((with_reducible refine' ex_var ?hv ?_); (case hv => rfl))
  | ((with_reducible refine' rx_ix_tup ?hv ?_); (case hv => rfl))
  | ((with_reducible refine' rx_ix_lst ?hv ?_); (case hv => rfl))
  | ((with_reducible refine' gx_tup ?hv ?_); (case hv => rfl))
  | ((with_reducible refine' rx_ix_cell ?hm ?hv ?_); (case hm => first | assumption | exact put_same); (case hv => rfl))
  | ((with_reducible refine' cx_len_cell ?hm ?_); (case hm => first | assumption | exact put_same))
  | ((with_reducible refine' rx_Ii ?hc ?_); (case hc => first | assumption | exact ⟨by decide, by decide +kernel⟩ | (show (0 : Int) < _; omega) | (show (0 : Int) < _; decide)))
  | ((with_reducible refine' rx_mul_int ?hc ?_); (case hc => first | assumption | exact cmul_l (by decide) (by decide) | exact cmul_r (by decide) (by decide)))
  | with_reducible refine ex_int ?_
  | with_reducible refine ex_str ?_
  | with_reducible refine ex_bl ?_
  | with_reducible refine ex_non ?_
  | with_reducible refine ex_raw ?_
  | with_reducible refine ex_op ?_
  | with_reducible refine ex_un ?_
  | with_reducible refine ex_cb ?_
  | with_reducible refine ex_tup ?_
  | with_reducible refine ex_sl ?_
  | with_reducible refine ox_none ?_
  | with_reducible refine ox_some ?_
  | with_reducible refine ax_nil ?_
  | with_reducible refine ax_cons ?_
  | with_reducible refine ex_if ?_
  | with_reducible refine ex_andV ?_
  | with_reducible refine ex_orV ?_
  | with_reducible refine ex_notV ?_
  | with_reducible refine ex_m0 ?_
  | with_reducible refine ex_m1 ?_
  | with_reducible refine tx_test ?_
  | with_reducible refine tx_B ?_
  | with_reducible refine tx_and ?_
  | with_reducible refine tx_or ?_
  | with_reducible refine tx_not ?_
  | with_reducible refine tx_yes ?_
  | with_reducible refine sx_seq ?_
  | with_reducible refine sx_set ?_
  | with_reducible refine sx_ret ?_
  | with_reducible refine sx_drop ?_
  | with_reducible refine sx_next ?_
  | with_reducible refine sx_if ?_
  | with_reducible refine sx_retN ?_
  | with_reducible refine sx_asg ?_
  | with_reducible refine sx_par ?_
  | with_reducible refine gx_name ?_
  | with_reducible refine gxs_cons ?_
  | with_reducible refine gxs_nil ?_
  | with_reducible refine rx_add_int ?_
  | with_reducible refine rx_I0i ?_
  | with_reducible refine rx_I0b ?_
  | with_reducible refine rx_eq_int ?_
  | with_reducible refine rx_ne_int ?_
  | with_reducible refine rx_eq_str ?_
  | with_reducible refine rx_ne_str ?_
  | with_reducible refine rx_eq_bl ?_
  | with_reducible refine rx_ne_bl ?_
  | with_reducible refine lx_tup ?_
  | with_reducible refine lx_lst ?_
  | with_reducible refine cx_len_tup ?_
  | with_reducible refine cx_len_lst ?_
  | with_reducible refine cx_len_frl ?_
  | with_reducible refine cx_max2 ?_
  | with_reducible refine ux_neg ?_
  | with_reducible refine cx_list_lst ?_
  | with_reducible refine cx_tuple_lst ?_
  | with_reducible refine cx_tuple_tup ?_
  | with_reducible refine mx_isdigit ?_
  | with_reducible refine mx_startswith ?_
  | with_reducible refine ix_any ?_
  | with_reducible refine And.intro (Nat.le_of_ble_eq_true rfl) ?_
  | refine Exists.intro _ (And.intro rfl ?_))
local macro_rules | `(tactic| walk_at "w") => `(tactic| repeat (walk_at "w1"))
section
variable {P : Program} {w : World} {K : PySem.W.Frag} {mg : Str → Option Value} {base : Heap} {C WE BP BT NC BJ S BW TM TF BS UN NP UF DP DF J UR SC JC CG RB RS FJ f g : Addr} {fd : FuncData}
theorem ok_Polygon_parse {f : Addr} {fd : FuncData} (F : Fun K "parse" "Polygon.parse" s_Polygon_parse f fd) (T : Tx K mg C) (c_read_points : Cal P w K mg base 3 "read_points" (spRead K)) (c_mk : MkR P w K mg base 2 C "Polygon" (spInit K C)) : FnOk P w K mg base CX0 4 f fd ["cls", "text"] (spParse K C) := by
  refine F.ok sc_Polygon_parse (spD_len (n := 2) (fun x ds M h => by rw [h.1] <;> rfl)) (fun cdv A outer s H vs Q E hr h => ⟨_, (pss_cons (ps_set (i := 2) sc_Polygon_parse.nd rfl (Or.inl rfl) (pe_c c_read_points hr (by decide) rfl (pa_cons (pv 1) pa_nil))) (pss_one (ps_ret (pe_mkV c_mk hr (by decide) (pv 0) (pv 2))))), enter h ?_⟩)
  try dsimp only [cxOf, Cx.nox, Cx.wish]
  rintro ps ds M ⟨rfl, h3, h8, hs⟩
  refine sx_seq (sx_set (ex_callP ?_))
  walk_at "w"
  refine ⟨⟨(fun e => by rw [e] at h3; exact absurd h3 (by decide)), Nat.le_trans h8 (by decide), hs⟩, ?_⟩
  refine sx_ret (ex_frzI (ex_makeV ?_))
  walk_at "w"
  refine ⟨rfl, ex_makeS ?_⟩
  walk_at "w"
  refine ⟨_, _, .inl ⟨.inl rfl, rfl⟩, fun x hx => ⟨(x, ps), ⟨rfl, put_same, h3, h8⟩, ?_⟩⟩
  rintro d M2 ⟨rfl, rfl⟩
  refine ⟨rfl, x, C, _, rfl, put_same, ?_⟩
  exact ret_pure rfl (del_put_sub (Sub.put (Sub.refl M) hx) hx)
end
end Wk
namespace Wk
open PySem L2 Evl
local macro_rules | `(tactic| walk_at "w1") => `(tactic| first
  | ((with_reducible refine' ex_var ?hv ?_); (case hv => rfl))
  | ((with_reducible refine' rx_ix_tup ?hv ?_); (case hv => rfl))
  | ((with_reducible refine' rx_ix_lst ?hv ?_); (case hv => rfl))
  | ((with_reducible refine' gx_tup ?hv ?_); (case hv => rfl))
  | ((with_reducible refine' rx_ix_cell ?hm ?hv ?_); (case hm => first | assumption | exact put_same); (case hv => rfl))
  | ((with_reducible refine' cx_len_cell ?hm ?_); (case hm => first | assumption | exact put_same))
  | ((with_reducible refine' rx_Ii ?hc ?_); (case hc => first | assumption | exact ⟨by decide, by decide +kernel⟩ | (show (0 : Int) < _; omega) | (show (0 : Int) < _; decide)))
  | ((with_reducible refine' rx_mul_int ?hc ?_); (case hc => first | assumption | exact cmul_l (by decide) (by decide) | exact cmul_r (by decide) (by decide)))
  | with_reducible refine ex_int ?_
  | with_reducible refine ex_str ?_
  | with_reducible refine ex_bl ?_
  | with_reducible refine ex_non ?_
  | with_reducible refine ex_raw ?_
  | with_reducible refine ex_op ?_
  | with_reducible refine ex_un ?_
  | with_reducible refine ex_cb ?_
  | with_reducible refine ex_tup ?_
  | with_reducible refine ex_sl ?_
  | with_reducible refine ox_none ?_
  | with_reducible refine ox_some ?_
  | with_reducible refine ax_nil ?_
  | with_reducible refine ax_cons ?_
  | with_reducible refine ex_if ?_
  | with_reducible refine ex_andV ?_
  | with_reducible refine ex_orV ?_
  | with_reducible refine ex_notV ?_
  | with_reducible refine ex_m0 ?_
  | with_reducible refine ex_m1 ?_
  | with_reducible refine tx_test ?_
  | with_reducible refine tx_B ?_
  | with_reducible refine tx_and ?_
  | with_reducible refine tx_or ?_
  | with_reducible refine tx_not ?_
  | with_reducible refine tx_yes ?_
  | with_reducible refine sx_seq ?_
  | with_reducible refine sx_set ?_
  | with_reducible refine sx_ret ?_
  | with_reducible refine sx_drop ?_
  | with_reducible refine sx_next ?_
  | with_reducible refine sx_if ?_
  | with_reducible refine sx_retN ?_
  | with_reducible refine sx_asg ?_
  | with_reducible refine sx_par ?_
  | with_reducible refine gx_name ?_
  | with_reducible refine gxs_cons ?_
  | with_reducible refine gxs_nil ?_
  | with_reducible refine rx_add_int ?_
  | with_reducible refine rx_I0i ?_
  | with_reducible refine rx_I0b ?_
  | with_reducible refine rx_eq_int ?_
  | with_reducible refine rx_ne_int ?_
  | with_reducible refine rx_eq_str ?_
  | with_reducible refine rx_ne_str ?_
  | with_reducible refine rx_eq_bl ?_
  | with_reducible refine rx_ne_bl ?_
  | with_reducible refine lx_tup ?_
  | with_reducible refine lx_lst ?_
  | with_reducible refine cx_len_tup ?_
  | with_reducible refine cx_len_lst ?_
  | with_reducible refine cx_len_frl ?_
  | with_reducible refine cx_max2 ?_
  | with_reducible refine ux_neg ?_
  | with_reducible refine cx_list_lst ?_
  | with_reducible refine cx_tuple_lst ?_
  | with_reducible refine cx_tuple_tup ?_
  | with_reducible refine mx_isdigit ?_
  | with_reducible refine mx_startswith ?_
  | with_reducible refine ix_any ?_
  | with_reducible refine And.intro (Nat.le_of_ble_eq_true rfl) ?_
  | refine Exists.intro _ (And.intro rfl ?_))
local macro_rules | `(tactic| walk_at "w") => `(tactic| repeat (walk_at "w1"))
section
variable {P : Program} {w : World} {K : PySem.W.Frag} {mg : Str → Option Value} {base : Heap} {C WE BP BT NC BJ S BW TM TF BS UN NP UF DP DF J UR SC JC CG RB RS FJ f g : Addr} {fd : FuncData}
theorem ok__law_made {f : Addr} {fd : FuncData} (F : Fun K "_law_made" "_law_made" s__law_made f fd) (T : Tx K mg C) (c_parse : CmtR P w K mg base 4 C "parse" (spParse K C)) : FnOk P w K mg base CX0 5 f fd ["points"] (spMade K C) := by
  refine F.ok sc__law_made (spD_len (n := 1) (fun x ds M h => by rw [h.1] <;> rfl)) (fun cdv A outer s H vs Q E hr h => ⟨_, (pss_one (ps_ret (pe_cmR c_parse hr (by decide) (pe_glob (v := .ref C) rfl T.m_Polygon rfl) (pa_cons (pe_join pe_str (pe_lc (own := [("x", 1), ("y", 2)]) rfl sc__law_made.nd (pi_any (pv 0)) (blkOk_by (own := [("x", 1), ("y", 2)]) (N := ["points", "x", "y"]) (sc := defScope s__law_made) (by decide +kernel)) (fun _ _ _ _ _ => (pg_tupK K 2 (by rfl) (pgs_cons (pg_name (i := 1) sc__law_made.nd rfl (Or.inl rfl)) (pgs_cons (pg_name (i := 2) sc__law_made.nd rfl (Or.inl rfl)) pgs_nil)) (by rfl))) (fun _ _ _ _ _ => pts_nil) (fun _ _ _ _ _ => (pe_op (op_addK K (by rfl)) (pe_op (op_addK K (by rfl)) (pe_callTy call_str_int (by rfl) T.n_str (by decide +kernel) (pa_cons (pv 1) pa_nil)) pe_str) (pe_callTy call_str_int (by rfl) T.n_str (by decide +kernel) (pa_cons (pv 2) pa_nil)))))) pa_nil)))), enter h ?_⟩)
  try dsimp only [cxOf, Cx.nox, Cx.wish]
  rintro ⟨ps, b⟩ ds M ⟨rfl, h3, h8, hs⟩
  dsimp only at *
  refine sx_ret (ex_cmeth ?_)
  walk_at "w"
  refine ⟨rfl, ?_⟩
  refine ax_cons (ex_m1 (ex_str ⟨⟨_, rfl⟩, ?_⟩))
  refine ex_lcm (by exact gw_tup (gw_cons (gw_name (by decide)) (gw_cons (gw_name (by decide)) gw_nil gm_name) gm_name)) ?_
  refine ix_any (ex_var rfl ?_)
  refine ⟨ps.map P2, fun _ => True, ?_, ?_, trivial, (ps.map wP).map Dt.str, ?_, ?_, ?_⟩
  · cases b with
    | true => exact .inl ⟨.inr (.inr rfl), rfl⟩
    | false => exact .inl ⟨.inl rfl, rfl⟩
  · rw [List.length_map]
    exact Nat.lt_of_le_of_lt h8 (by decide)
  · rw [List.length_map, List.length_map, List.length_map]
  · intro i d z hi hz
    rw [List.getElem?_map] at hi
    obtain ⟨p, hp, rfl⟩ := Option.map_eq_some_iff.mp hi
    rw [List.getElem?_map, List.getElem?_map, hp] at hz
    cases hz
    have hps := hs p (List.mem_of_getElem? hp)
    have l1 := wI_len hps.1
    have l2 := wI_len hps.2
    walk_at "w"
    refine cx_str (log_lt hps.1) ?_
    walk_at "w"
    refine rx_add_str (Nat.le_trans (Nat.add_le_add_right l1 _) (by decide)) ?_
    walk_at "w"
    refine cx_str (log_lt hps.2) ?_
    refine rx_add_str (Nat.le_trans (m := 1000) ?_ (by decide)) ?_
    · rw [TL.len_tl, TL.tl_append, List.length_append, ← TL.len_tl, ← TL.len_tl]
      have e1 : (wI p.1).length ≤ 303 := l1
      have e2 : (Str.ofString (toString p.2)).length ≤ 303 := l2
      have e3 : (Str.ofString ",").length ≤ 1 := by decide
      have e4 : (Str.ofString (toString p.1)).length ≤ 303 := l1
      omega
    · exact ⟨rfl, rfl⟩
  · refine mx_join (.inl ⟨.inl rfl, rfl⟩) ?_ ?_
    · have q := sum_len hs
      rw [List.length_map]
      have e3 : (Str.ofString " ").length ≤ 1 := by decide
      have e4 : ps.length * (Str.ofString " ").length ≤ 8 * 1 := Nat.mul_le_mul h8 e3
      omega
    · walk_at "w"
      refine ⟨ps, ⟨rfl, h3, h8, hs⟩, ?_⟩
      rintro d M2 ⟨rfl, rfl⟩
      exact ret_pure rfl (Sub.refl _)
end
end Wk
namespace Wk
open PySem L2 Evl
local macro_rules | `(tactic| walk_at "w1") => `(tactic| first
  | ((with_reducible refine' ex_var ?hv ?_); (case hv => rfl))
  | ((with_reducible refine' rx_ix_tup ?hv ?_); (case hv => rfl))
  | ((with_reducible refine' rx_ix_lst ?hv ?_); (case hv => rfl))
  | ((with_reducible refine' gx_tup ?hv ?_); (case hv => rfl))
  | ((with_reducible refine' rx_ix_cell ?hm ?hv ?_); (case hm => first | assumption | exact put_same); (case hv => rfl))
  | ((with_reducible refine' cx_len_cell ?hm ?_); (case hm => first | assumption | exact put_same))
  | ((with_reducible refine' rx_Ii ?hc ?_); (case hc => first | assumption | exact ⟨by decide, by decide +kernel⟩ | (show (0 : Int) < _; omega) | (show (0 : Int) < _; decide)))
  | ((with_reducible refine' rx_mul_int ?hc ?_); (case hc => first | assumption | exact cmul_l (by decide) (by decide) | exact cmul_r (by decide) (by decide)))
  | with_reducible refine ex_int ?_
  | with_reducible refine ex_str ?_
  | with_reducible refine ex_bl ?_
  | with_reducible refine ex_non ?_
  | with_reducible refine ex_raw ?_
  | with_reducible refine ex_op ?_
  | with_reducible refine ex_un ?_
  | with_reducible refine ex_cb ?_
  | with_reducible refine ex_tup ?_
  | with_reducible refine ex_sl ?_
  | with_reducible refine ox_none ?_
  | with_reducible refine ox_some ?_
  | with_reducible refine ax_nil ?_
  | with_reducible refine ax_cons ?_
  | with_reducible refine ex_if ?_
  | with_reducible refine ex_andV ?_
  | with_reducible refine ex_orV ?_
  | with_reducible refine ex_notV ?_
  | with_reducible refine ex_m0 ?_
  | with_reducible refine ex_m1 ?_
  | with_reducible refine tx_test ?_
  | with_reducible refine tx_B ?_
  | with_reducible refine tx_and ?_
  | with_reducible refine tx_or ?_
  | with_reducible refine tx_not ?_
  | with_reducible refine tx_yes ?_
  | with_reducible refine sx_seq ?_
  | with_reducible refine sx_set ?_
  | with_reducible refine sx_ret ?_
  | with_reducible refine sx_drop ?_
  | with_reducible refine sx_next ?_
  | with_reducible refine sx_if ?_
  | with_reducible refine sx_retN ?_
  | with_reducible refine sx_asg ?_
  | with_reducible refine sx_par ?_
  | with_reducible refine gx_name ?_
  | with_reducible refine gxs_cons ?_
  | with_reducible refine gxs_nil ?_
  | with_reducible refine rx_add_int ?_
  | with_reducible refine rx_I0i ?_
  | with_reducible refine rx_I0b ?_
  | with_reducible refine rx_eq_int ?_
  | with_reducible refine rx_ne_int ?_
  | with_reducible refine rx_eq_str ?_
  | with_reducible refine rx_ne_str ?_
  | with_reducible refine rx_eq_bl ?_
  | with_reducible refine rx_ne_bl ?_
  | with_reducible refine lx_tup ?_
  | with_reducible refine lx_lst ?_
  | with_reducible refine cx_len_tup ?_
  | with_reducible refine cx_len_lst ?_
  | with_reducible refine cx_len_frl ?_
  | with_reducible refine cx_max2 ?_
  | with_reducible refine ux_neg ?_
  | with_reducible refine cx_list_lst ?_
  | with_reducible refine cx_tuple_lst ?_
  | with_reducible refine cx_tuple_tup ?_
  | with_reducible refine mx_isdigit ?_
  | with_reducible refine mx_startswith ?_
  | with_reducible refine ix_any ?_
  | with_reducible refine And.intro (Nat.le_of_ble_eq_true rfl) ?_
  | refine Exists.intro _ (And.intro rfl ?_))
local macro_rules | `(tactic| walk_at "w") => `(tactic| repeat (walk_at "w1"))
section
variable {P : Program} {w : World} {K : PySem.W.Frag} {mg : Str → Option Value} {base : Heap} {C WE BP BT NC BJ S BW TM TF BS UN NP UF DP DF J UR SC JC CG RB RS FJ f g : Addr} {fd : FuncData}
theorem ok_Polygon_len {f : Addr} {fd : FuncData} (F : Fun K "__len__" "Polygon.__len__" s_Polygon_len f fd) (T : Tx K mg C)  : FnOk P w K mg base CX0 1 f fd ["self"] (spLenP K C) := by
  refine F.ok sc_Polygon_len (spD_len (n := 1) (fun x ds M h => by rw [h.1] <;> rfl)) (fun cdv A outer s H vs Q E hr h => ⟨_, (pss_one (ps_ret (pe_callB call_lenA (by rfl) T.n_len (by decide +kernel) (pa_cons (pe_fld (pv 0) rfl) pa_nil)))), enter h ?_⟩)
  try dsimp only [cxOf, Cx.nox, Cx.wish]
  rintro ps ds M ⟨rfl, hl⟩
  walk_at "w"
  refine ex_fld ?_
  walk_at "w"
  refine ⟨C, _, Pts ps, rfl, T.cl, T.nP, rfl, ?_⟩
  walk_at "w"
  exact ret_pure (by rw [List.length_map]) (Sub.refl M)
end
end Wk
namespace Wk
open PySem L2 Evl
local macro_rules | `(tactic| walk_at "w1") => `(tactic| first
  | ((with_reducible refine' ex_var ?hv ?_); (case hv => rfl))
  | ((with_reducible refine' rx_ix_tup ?hv ?_); (case hv => rfl))
  | ((with_reducible refine' rx_ix_lst ?hv ?_); (case hv => rfl))
  | ((with_reducible refine' gx_tup ?hv ?_); (case hv => rfl))
  | ((with_reducible refine' rx_ix_cell ?hm ?hv ?_); (case hm => first | assumption | exact put_same); (case hv => rfl))
  | ((with_reducible refine' cx_len_cell ?hm ?_); (case hm => first | assumption | exact put_same))
  | ((with_reducible refine' rx_Ii ?hc ?_); (case hc => first | assumption | exact ⟨by decide, by decide +kernel⟩ | (show (0 : Int) < _; omega) | (show (0 : Int) < _; decide)))
  | ((with_reducible refine' rx_mul_int ?hc ?_); (case hc => first | assumption | exact cmul_l (by decide) (by decide) | exact cmul_r (by decide) (by decide)))
  | with_reducible refine ex_int ?_
  | with_reducible refine ex_str ?_
  | with_reducible refine ex_bl ?_
  | with_reducible refine ex_non ?_
  | with_reducible refine ex_raw ?_
  | with_reducible refine ex_op ?_
  | with_reducible refine ex_un ?_
  | with_reducible refine ex_cb ?_
  | with_reducible refine ex_tup ?_
  | with_reducible refine ex_sl ?_
  | with_reducible refine ox_none ?_
  | with_reducible refine ox_some ?_
  | with_reducible refine ax_nil ?_
  | with_reducible refine ax_cons ?_
  | with_reducible refine ex_if ?_
  | with_reducible refine ex_andV ?_
  | with_reducible refine ex_orV ?_
  | with_reducible refine ex_notV ?_
  | with_reducible refine ex_m0 ?_
  | with_reducible refine ex_m1 ?_
  | with_reducible refine tx_test ?_
  | with_reducible refine tx_B ?_
  | with_reducible refine tx_and ?_
  | with_reducible refine tx_or ?_
  | with_reducible refine tx_not ?_
  | with_reducible refine tx_yes ?_
  | with_reducible refine sx_seq ?_
  | with_reducible refine sx_set ?_
  | with_reducible refine sx_ret ?_
  | with_reducible refine sx_drop ?_
  | with_reducible refine sx_next ?_
  | with_reducible refine sx_if ?_
  | with_reducible refine sx_retN ?_
  | with_reducible refine sx_asg ?_
  | with_reducible refine sx_par ?_
  | with_reducible refine gx_name ?_
  | with_reducible refine gxs_cons ?_
  | with_reducible refine gxs_nil ?_
  | with_reducible refine rx_add_int ?_
  | with_reducible refine rx_I0i ?_
  | with_reducible refine rx_I0b ?_
  | with_reducible refine rx_eq_int ?_
  | with_reducible refine rx_ne_int ?_
  | with_reducible refine rx_eq_str ?_
  | with_reducible refine rx_ne_str ?_
  | with_reducible refine rx_eq_bl ?_
  | with_reducible refine rx_ne_bl ?_
  | with_reducible refine lx_tup ?_
  | with_reducible refine lx_lst ?_
  | with_reducible refine cx_len_tup ?_
  | with_reducible refine cx_len_lst ?_
  | with_reducible refine cx_len_frl ?_
  | with_reducible refine cx_max2 ?_
  | with_reducible refine ux_neg ?_
  | with_reducible refine cx_list_lst ?_
  | with_reducible refine cx_tuple_lst ?_
  | with_reducible refine cx_tuple_tup ?_
  | with_reducible refine mx_isdigit ?_
  | with_reducible refine mx_startswith ?_
  | with_reducible refine ix_any ?_
  | with_reducible refine And.intro (Nat.le_of_ble_eq_true rfl) ?_
  | refine Exists.intro _ (And.intro rfl ?_))
local macro_rules | `(tactic| walk_at "w") => `(tactic| repeat (walk_at "w1"))
section
variable {P : Program} {w : World} {K : PySem.W.Frag} {mg : Str → Option Value} {base : Heap} {C WE BP BT NC BJ S BW TM TF BS UN NP UF DP DF J UR SC JC CG RB RS FJ f g : Addr} {fd : FuncData}
theorem ok_minus {f : Addr} {fd : FuncData} (F : Fun K "minus" "minus" s_minus f fd) (T : Tx K mg C)  : FnOk P w K mg base CX0 1 f fd ["first", "second"] (spMinus K) := by
  refine F.ok sc_minus (spD_len (n := 2) (fun x ds M h => by rw [h.1] <;> rfl)) (fun cdv A outer s H vs Q E hr h => ⟨_, (pss_one (ps_ret (pe_tup (pa_cons (pe_op op_sub (pe_ix ix_seq (pv 0) pe_int (fun _ _ => rfl)) (pe_ix ix_seq (pv 1) pe_int (fun _ _ => rfl))) (pa_cons (pe_op op_sub (pe_ix ix_seq (pv 0) pe_int (fun _ _ => rfl)) (pe_ix ix_seq (pv 1) pe_int (fun _ _ => rfl))) pa_nil))))), enter h ?_⟩)
  try dsimp only [cxOf, Cx.nox, Cx.wish]
  rintro ⟨a, b⟩ ds M ⟨rfl, _⟩
  walk_at "w"
  exact ret_pure rfl (Sub.refl M)
end
end Wk
namespace Wk
open PySem L2 Evl
local macro_rules | `(tactic| walk_at "w1") => `(tactic| first
  | ((with_reducible refine' ex_var ?hv ?_); (case hv => rfl))
  | ((with_reducible refine' rx_ix_tup ?hv ?_); (case hv => rfl))
  | ((with_reducible refine' rx_ix_lst ?hv ?_); (case hv => rfl))
  | ((with_reducible refine' gx_tup ?hv ?_); (case hv => rfl))
  | ((with_reducible refine' rx_ix_cell ?hm ?hv ?_); (case hm => first | assumption | exact put_same); (case hv => rfl))
  | ((with_reducible refine' cx_len_cell ?hm ?_); (case hm => first | assumption | exact put_same))
  | ((with_reducible refine' rx_Ii ?hc ?_); (case hc => first | assumption | exact ⟨by decide, by decide +kernel⟩ | (show (0 : Int) < _; omega) | (show (0 : Int) < _; decide)))
  | ((with_reducible refine' rx_mul_int ?hc ?_); (case hc => first | assumption | exact cmul_l (by decide) (by decide) | exact cmul_r (by decide) (by decide)))
  | with_reducible refine ex_int ?_
  | with_reducible refine ex_str ?_
  | with_reducible refine ex_bl ?_
  | with_reducible refine ex_non ?_
  | with_reducible refine ex_raw ?_
  | with_reducible refine ex_op ?_
  | with_reducible refine ex_un ?_
  | with_reducible refine ex_cb ?_
  | with_reducible refine ex_tup ?_
  | with_reducible refine ex_sl ?_
  | with_reducible refine ox_none ?_
  | with_reducible refine ox_some ?_
  | with_reducible refine ax_nil ?_
  | with_reducible refine ax_cons ?_
  | with_reducible refine ex_if ?_
  | with_reducible refine ex_andV ?_
  | with_reducible refine ex_orV ?_
  | with_reducible refine ex_notV ?_
  | with_reducible refine ex_m0 ?_
  | with_reducible refine ex_m1 ?_
  | with_reducible refine tx_test ?_
  | with_reducible refine tx_B ?_
  | with_reducible refine tx_and ?_
  | with_reducible refine tx_or ?_
  | with_reducible refine tx_not ?_
  | with_reducible refine tx_yes ?_
  | with_reducible refine sx_seq ?_
  | with_reducible refine sx_set ?_
  | with_reducible refine sx_ret ?_
  | with_reducible refine sx_drop ?_
  | with_reducible refine sx_next ?_
  | with_reducible refine sx_if ?_
  | with_reducible refine sx_retN ?_
  | with_reducible refine sx_asg ?_
  | with_reducible refine sx_par ?_
  | with_reducible refine gx_name ?_
  | with_reducible refine gxs_cons ?_
  | with_reducible refine gxs_nil ?_
  | with_reducible refine rx_add_int ?_
  | with_reducible refine rx_I0i ?_
  | with_reducible refine rx_I0b ?_
  | with_reducible refine rx_eq_int ?_
  | with_reducible refine rx_ne_int ?_
  | with_reducible refine rx_eq_str ?_
  | with_reducible refine rx_ne_str ?_
  | with_reducible refine rx_eq_bl ?_
  | with_reducible refine rx_ne_bl ?_
  | with_reducible refine lx_tup ?_
  | with_reducible refine lx_lst ?_
  | with_reducible refine cx_len_tup ?_
  | with_reducible refine cx_len_lst ?_
  | with_reducible refine cx_len_frl ?_
  | with_reducible refine cx_max2 ?_
  | with_reducible refine ux_neg ?_
  | with_reducible refine cx_list_lst ?_
  | with_reducible refine cx_tuple_lst ?_
  | with_reducible refine cx_tuple_tup ?_
  | with_reducible refine mx_isdigit ?_
  | with_reducible refine mx_startswith ?_
  | with_reducible refine ix_any ?_
  | with_reducible refine And.intro (Nat.le_of_ble_eq_true rfl) ?_
  | refine Exists.intro _ (And.intro rfl ?_))
local macro_rules | `(tactic| walk_at "w") => `(tactic| repeat (walk_at "w1"))
section
variable {P : Program} {w : World} {K : PySem.W.Frag} {mg : Str → Option Value} {base : Heap} {C WE BP BT NC BJ S BW TM TF BS UN NP UF DP DF J UR SC JC CG RB RS FJ f g : Addr} {fd : FuncData}
theorem ok_sides_of {f : Addr} {fd : FuncData} (F : Fun K "sides_of" "sides_of" s_sides_of f fd) (T : Tx K mg C)  : FnOk P w K mg base CX0 1 f fd ["points"] (spSides K) := by
  refine F.ok sc_sides_of (spD_len (n := 1) (fun x ds M h => by rw [h.1] <;> rfl)) (fun cdv A outer s H vs Q E hr h => ⟨_, (pss_one (ps_ret (pe_listZip rfl rfl T.n_list rfl T.n_zip (pa_cons (pv 0) (pa_cons (pe_op op_addA (pe_slice sl_any (pv 0) (po_some pe_int) po_none) (pe_slice sl_any (pv 0) po_none (po_some pe_int))) pa_nil))))), enter h ?_⟩)
  try dsimp only [cxOf, Cx.nox, Cx.wish]
  rintro ps ds M ⟨rfl, hl⟩
  refine sx_ret (ex_listZip ?_)
  walk_at "w"
  refine rx_add_tup ?_ ?_
  · have h1 : (cutD (ps.map P2) (some 1) none).length ≤ 1000 := Nat.le_trans (cutD_length _ _ _) (by rw [List.length_map]; exact hl)
    have h2 : (cutD (ps.map P2) none (some 1)).length ≤ 1000 := Nat.le_trans (cutD_length _ _ _) (by rw [List.length_map]; exact hl)
    exact Nat.le_trans (Nat.add_le_add h1 h2) (by decide)
  refine ax_nil ⟨_, _, rfl, ?_, ?_⟩
  · rw [cutD_rot, rot_length]
  · rw [cutD_rot, ← rot_map]
    exact ret_pure rfl (Sub.refl M)
end
end Wk
namespace Wk
open PySem L2 Evl
local macro_rules | `(tactic| walk_at "w1") => `(tactic| first
  | ((with_reducible refine' ex_var ?hv ?_); (case hv => rfl))
  | ((with_reducible refine' rx_ix_tup ?hv ?_); (case hv => rfl))
  | ((with_reducible refine' rx_ix_lst ?hv ?_); (case hv => rfl))
  | ((with_reducible refine' gx_tup ?hv ?_); (case hv => rfl))
  | ((with_reducible refine' rx_ix_cell ?hm ?hv ?_); (case hm => first | assumption | exact put_same); (case hv => rfl))
  | ((with_reducible refine' cx_len_cell ?hm ?_); (case hm => first | assumption | exact put_same))
  | ((with_reducible refine' rx_Ii ?hc ?_); (case hc => first | assumption | exact ⟨by decide, by decide +kernel⟩ | (show (0 : Int) < _; omega) | (show (0 : Int) < _; decide)))
  | ((with_reducible refine' rx_mul_int ?hc ?_); (case hc => first | assumption | exact cmul_l (by decide) (by decide) | exact cmul_r (by decide) (by decide)))
  | with_reducible refine ex_int ?_
  | with_reducible refine ex_str ?_
  | with_reducible refine ex_bl ?_
  | with_reducible refine ex_non ?_
  | with_reducible refine ex_raw ?_
  | with_reducible refine ex_op ?_
  | with_reducible refine ex_un ?_
  | with_reducible refine ex_cb ?_
  | with_reducible refine ex_tup ?_
  | with_reducible refine ex_sl ?_
  | with_reducible refine ox_none ?_
  | with_reducible refine ox_some ?_
  | with_reducible refine ax_nil ?_
  | with_reducible refine ax_cons ?_
  | with_reducible refine ex_if ?_
  | with_reducible refine ex_andV ?_
  | with_reducible refine ex_orV ?_
  | with_reducible refine ex_notV ?_
  | with_reducible refine ex_m0 ?_
  | with_reducible refine ex_m1 ?_
  | with_reducible refine tx_test ?_
  | with_reducible refine tx_B ?_
  | with_reducible refine tx_and ?_
  | with_reducible refine tx_or ?_
  | with_reducible refine tx_not ?_
  | with_reducible refine tx_yes ?_
  | with_reducible refine sx_seq ?_
  | with_reducible refine sx_set ?_
  | with_reducible refine sx_ret ?_
  | with_reducible refine sx_drop ?_
  | with_reducible refine sx_next ?_
  | with_reducible refine sx_if ?_
  | with_reducible refine sx_retN ?_
  | with_reducible refine sx_asg ?_
  | with_reducible refine sx_par ?_
  | with_reducible refine gx_name ?_
  | with_reducible refine gxs_cons ?_
  | with_reducible refine gxs_nil ?_
  | with_reducible refine rx_add_int ?_
  | with_reducible refine rx_I0i ?_
  | with_reducible refine rx_I0b ?_
  | with_reducible refine rx_eq_int ?_
  | with_reducible refine rx_ne_int ?_
  | with_reducible refine rx_eq_str ?_
  | with_reducible refine rx_ne_str ?_
  | with_reducible refine rx_eq_bl ?_
  | with_reducible refine rx_ne_bl ?_
  | with_reducible refine lx_tup ?_
  | with_reducible refine lx_lst ?_
  | with_reducible refine cx_len_tup ?_
  | with_reducible refine cx_len_lst ?_
  | with_reducible refine cx_len_frl ?_
  | with_reducible refine cx_max2 ?_
  | with_reducible refine ux_neg ?_
  | with_reducible refine cx_list_lst ?_
  | with_reducible refine cx_tuple_lst ?_
  | with_reducible refine cx_tuple_tup ?_
  | with_reducible refine mx_isdigit ?_
  | with_reducible refine mx_startswith ?_
  | with_reducible refine ix_any ?_
  | with_reducible refine And.intro (Nat.le_of_ble_eq_true rfl) ?_
  | refine Exists.intro _ (And.intro rfl ?_))
local macro_rules | `(tactic| walk_at "w") => `(tactic| repeat (walk_at "w1"))
section
variable {P : Program} {w : World} {K : PySem.W.Frag} {mg : Str → Option Value} {base : Heap} {C WE BP BT NC BJ S BW TM TF BS UN NP UF DP DF J UR SC JC CG RB RS FJ f g : Addr} {fd : FuncData}
theorem ok_Polygon_sticks {f : Addr} {fd : FuncData} (F : Fun K "sticks" "Polygon.sticks" s_Polygon_sticks f fd) (T : Tx K mg C) (c_minus : Cal P w K mg base 1 "minus" (spMinus K)) (c_sides_of : Cal P w K mg base 1 "sides_of" (spSides K)) : FnOk P w K mg base CX0 2 f fd ["self"] (spSticks K C) := by
  refine F.ok sc_Polygon_sticks (spD_len (n := 1) (fun x ds M h => by rw [h.1] <;> rfl)) (fun cdv A outer s H vs Q E hr h => ⟨_, (pss_one (ps_ret (pe_callTy call_tuple_of (by rfl) T.n_tuple (by decide +kernel) (pa_cons (pe_lc (own := [("point", 1), ("after", 2)]) rfl sc_Polygon_sticks.nd (pi_any (pe_c c_sides_of hr (by decide) rfl (pa_cons (pe_fld (pv 0) rfl) pa_nil))) (blkOk_by (own := [("point", 1), ("after", 2)]) (N := ["self", "point", "after"]) (sc := defScope s_Polygon_sticks) (by decide +kernel)) (fun _ _ _ _ _ => (pg_tupK K 2 (by rfl) (pgs_cons (pg_name (i := 1) sc_Polygon_sticks.nd rfl (Or.inl rfl)) (pgs_cons (pg_name (i := 2) sc_Polygon_sticks.nd rfl (Or.inl rfl)) pgs_nil)) (by rfl))) (fun _ _ _ _ _ => pts_nil) (fun _ _ _ _ _ => (pe_c c_minus hr (by decide) rfl (pa_cons (pv 2) (pa_cons (pv 1) pa_nil))))) pa_nil)))), enter h ?_⟩)
  try dsimp only [cxOf, Cx.nox, Cx.wish]
  rintro ps ds M ⟨rfl, hl⟩
  refine sx_ret (ex_cb ?_)
  refine ax_cons (ex_lcm (by first | exact gw_tup (gw_cons (gw_name (by decide)) (gw_cons (gw_name (by decide)) gw_nil gm_name) gm_name)) ?_)
  refine ix_any (ex_callP ?_)
  refine ax_cons (ex_fld ?_)
  walk_at "w"
  refine ⟨C, _, Pts ps, rfl, T.cl, T.nP, rfl, ?_⟩
  walk_at "w"
  refine ⟨hl, ?_⟩
  refine ⟨_, _, .inl ⟨.inl rfl, rfl⟩, ?_, trivial, (sticksP ps).map P2, ?_, ?_, ?_⟩
  · rw [pairD_length]
    exact Nat.lt_of_le_of_lt (Nat.min_le_left _ _) (Nat.lt_of_le_of_lt hl (by decide))
  · rw [pairD_length, List.length_map, sticksP_length, rot_length, Nat.min_self]
  · intro i d z hi hz
    obtain ⟨p, q, hp, hq, rfl⟩ := pairD_get hi
    rw [List.getElem?_map, sticksP_get hp hq] at hz
    cases hz
    walk_at "w"
    refine ex_callP ?_
    walk_at "w"
    exact ⟨(q, p), rfl, trivial, rfl, rfl⟩
  · walk_at "w"
    exact ret_pure rfl (Sub.refl M)
end
end Wk
namespace Wk
open PySem L2 Evl
local macro_rules | `(tactic| walk_at "w1") => `(tactic| first
  | ((with_reducible refine' ex_var ?hv ?_); (case hv => rfl))
  | ((with_reducible refine' rx_ix_tup ?hv ?_); (case hv => rfl))
  | ((with_reducible refine' rx_ix_lst ?hv ?_); (case hv => rfl))
  | ((with_reducible refine' gx_tup ?hv ?_); (case hv => rfl))
  | ((with_reducible refine' rx_ix_cell ?hm ?hv ?_); (case hm => first | assumption | exact put_same); (case hv => rfl))
  | ((with_reducible refine' cx_len_cell ?hm ?_); (case hm => first | assumption | exact put_same))
  | ((with_reducible refine' rx_Ii ?hc ?_); (case hc => first | assumption | exact ⟨by decide, by decide +kernel⟩ | (show (0 : Int) < _; omega) | (show (0 : Int) < _; decide)))
  | ((with_reducible refine' rx_mul_int ?hc ?_); (case hc => first | assumption | exact cmul_l (by decide) (by decide) | exact cmul_r (by decide) (by decide)))
  | with_reducible refine ex_int ?_
  | with_reducible refine ex_str ?_
  | with_reducible refine ex_bl ?_
  | with_reducible refine ex_non ?_
  | with_reducible refine ex_raw ?_
  | with_reducible refine ex_op ?_
  | with_reducible refine ex_un ?_
  | with_reducible refine ex_cb ?_
  | with_reducible refine ex_tup ?_
  | with_reducible refine ex_sl ?_
  | with_reducible refine ox_none ?_
  | with_reducible refine ox_some ?_
  | with_reducible refine ax_nil ?_
  | with_reducible refine ax_cons ?_
  | with_reducible refine ex_if ?_
  | with_reducible refine ex_andV ?_
  | with_reducible refine ex_orV ?_
  | with_reducible refine ex_notV ?_
  | with_reducible refine ex_m0 ?_
  | with_reducible refine ex_m1 ?_
  | with_reducible refine tx_test ?_
  | with_reducible refine tx_B ?_
  | with_reducible refine tx_and ?_
  | with_reducible refine tx_or ?_
  | with_reducible refine tx_not ?_
  | with_reducible refine tx_yes ?_
  | with_reducible refine sx_seq ?_
  | with_reducible refine sx_set ?_
  | with_reducible refine sx_ret ?_
  | with_reducible refine sx_drop ?_
  | with_reducible refine sx_next ?_
  | with_reducible refine sx_if ?_
  | with_reducible refine sx_retN ?_
  | with_reducible refine sx_asg ?_
  | with_reducible refine sx_par ?_
  | with_reducible refine gx_name ?_
  | with_reducible refine gxs_cons ?_
  | with_reducible refine gxs_nil ?_
  | with_reducible refine rx_add_int ?_
  | with_reducible refine rx_I0i ?_
  | with_reducible refine rx_I0b ?_
  | with_reducible refine rx_eq_int ?_
  | with_reducible refine rx_ne_int ?_
  | with_reducible refine rx_eq_str ?_
  | with_reducible refine rx_ne_str ?_
  | with_reducible refine rx_eq_bl ?_
  | with_reducible refine rx_ne_bl ?_
  | with_reducible refine lx_tup ?_
  | with_reducible refine lx_lst ?_
  | with_reducible refine cx_len_tup ?_
  | with_reducible refine cx_len_lst ?_
  | with_reducible refine cx_len_frl ?_
  | with_reducible refine cx_max2 ?_
  | with_reducible refine ux_neg ?_
  | with_reducible refine cx_list_lst ?_
  | with_reducible refine cx_tuple_lst ?_
  | with_reducible refine cx_tuple_tup ?_
  | with_reducible refine mx_isdigit ?_
  | with_reducible refine mx_startswith ?_
  | with_reducible refine ix_any ?_
  | with_reducible refine And.intro (Nat.le_of_ble_eq_true rfl) ?_
  | refine Exists.intro _ (And.intro rfl ?_))
local macro_rules | `(tactic| walk_at "w") => `(tactic| repeat (walk_at "w1"))
section
variable {P : Program} {w : World} {K : PySem.W.Frag} {mg : Str → Option Value} {base : Heap} {C WE BP BT NC BJ S BW TM TF BS UN NP UF DP DF J UR SC JC CG RB RS FJ f g : Addr} {fd : FuncData}
theorem ok_StickCount_init {f : Addr} {fd : FuncData} (F : Fun K "__init__" "StickCount.__init__" s_StickCount_init f fd) (T : Tx K mg C) (TR : TxR K mg JC SC CG) : FnOk P w K mg base CX0 1 f fd ["self", "stick"] (spIniS K SC) := by
  refine F.ok sc_StickCount_init (spD_len (n := 2) (fun x ds M h => by rw [h.1] <;> rfl)) (fun cdv A outer s H vs Q E hr h => ⟨_, (pss_one (ps_fld (pv 0) (pv 1) rfl)), enter h ?_⟩)
  try dsimp only [cxOf, Cx.nox, Cx.wish]
  rintro ⟨a, d⟩ ds M ⟨rfl, hm⟩
  dsimp only at *
  refine sx_fld ?_
  walk_at "w"
  exact ⟨a, SC, [], rfl, hm, TR.clS, TR.nS, by decide, _, Sub.refl _, rfl, rfl⟩
end
end Wk
namespace Wk
open PySem L2 Evl
local macro_rules | `(tactic| walk_at "w1") => `(tactic| first
  | ((with_reducible refine' ex_var ?hv ?_); (case hv => rfl))
  | ((with_reducible refine' rx_ix_tup ?hv ?_); (case hv => rfl))
  | ((with_reducible refine' rx_ix_lst ?hv ?_); (case hv => rfl))
  | ((with_reducible refine' gx_tup ?hv ?_); (case hv => rfl))
  | ((with_reducible refine' rx_ix_cell ?hm ?hv ?_); (case hm => first | assumption | exact put_same); (case hv => rfl))
  | ((with_reducible refine' cx_len_cell ?hm ?_); (case hm => first | assumption | exact put_same))
  | ((with_reducible refine' rx_Ii ?hc ?_); (case hc => first | assumption | exact ⟨by decide, by decide +kernel⟩ | (show (0 : Int) < _; omega) | (show (0 : Int) < _; decide)))
  | ((with_reducible refine' rx_mul_int ?hc ?_); (case hc => first | assumption | exact cmul_l (by decide) (by decide) | exact cmul_r (by decide) (by decide)))
  | with_reducible refine ex_int ?_
  | with_reducible refine ex_str ?_
  | with_reducible refine ex_bl ?_
  | with_reducible refine ex_non ?_
  | with_reducible refine ex_raw ?_
  | with_reducible refine ex_op ?_
  | with_reducible refine ex_un ?_
  | with_reducible refine ex_cb ?_
  | with_reducible refine ex_tup ?_
  | with_reducible refine ex_sl ?_
  | with_reducible refine ox_none ?_
  | with_reducible refine ox_some ?_
  | with_reducible refine ax_nil ?_
  | with_reducible refine ax_cons ?_
  | with_reducible refine ex_if ?_
  | with_reducible refine ex_andV ?_
  | with_reducible refine ex_orV ?_
  | with_reducible refine ex_notV ?_
  | with_reducible refine ex_m0 ?_
  | with_reducible refine ex_m1 ?_
  | with_reducible refine tx_test ?_
  | with_reducible refine tx_B ?_
  | with_reducible refine tx_and ?_
  | with_reducible refine tx_or ?_
  | with_reducible refine tx_not ?_
  | with_reducible refine tx_yes ?_
  | with_reducible refine sx_seq ?_
  | with_reducible refine sx_set ?_
  | with_reducible refine sx_ret ?_
  | with_reducible refine sx_drop ?_
  | with_reducible refine sx_next ?_
  | with_reducible refine sx_if ?_
  | with_reducible refine sx_retN ?_
  | with_reducible refine sx_asg ?_
  | with_reducible refine sx_par ?_
  | with_reducible refine gx_name ?_
  | with_reducible refine gxs_cons ?_
  | with_reducible refine gxs_nil ?_
  | with_reducible refine rx_add_int ?_
  | with_reducible refine rx_I0i ?_
  | with_reducible refine rx_I0b ?_
  | with_reducible refine rx_eq_int ?_
  | with_reducible refine rx_ne_int ?_
  | with_reducible refine rx_eq_str ?_
  | with_reducible refine rx_ne_str ?_
  | with_reducible refine rx_eq_bl ?_
  | with_reducible refine rx_ne_bl ?_
  | with_reducible refine lx_tup ?_
  | with_reducible refine lx_lst ?_
  | with_reducible refine cx_len_tup ?_
  | with_reducible refine cx_len_lst ?_
  | with_reducible refine cx_len_frl ?_
  | with_reducible refine cx_max2 ?_
  | with_reducible refine ux_neg ?_
  | with_reducible refine cx_list_lst ?_
  | with_reducible refine cx_tuple_lst ?_
  | with_reducible refine cx_tuple_tup ?_
  | with_reducible refine mx_isdigit ?_
  | with_reducible refine mx_startswith ?_
  | with_reducible refine ix_any ?_
  | with_reducible refine And.intro (Nat.le_of_ble_eq_true rfl) ?_
  | refine Exists.intro _ (And.intro rfl ?_))
local macro_rules | `(tactic| walk_at "w") => `(tactic| repeat (walk_at "w1"))
section
variable {P : Program} {w : World} {K : PySem.W.Frag} {mg : Str → Option Value} {base : Heap} {C WE BP BT NC BJ S BW TM TF BS UN NP UF DP DF J UR SC JC CG RB RS FJ f g : Addr} {fd : FuncData}
theorem ok_sticksF {f : Addr} {fd : FuncData} (F : Fun K "sticks" "Polygon.sticks" s_Polygon_sticks f fd) (T : Tx K mg C) (c_minus : Cal P w K mg base 1 "minus" (spMinus K)) (c_sides_of : Cal P w K mg base 1 "sides_of" (spSides K)) : FnOk P w K mg base CX0 2 f fd ["self"] (spSticksF K C) := by
  refine F.ok sc_Polygon_sticks (spD_len (n := 1) (fun x ds M h => by rw [h.1] <;> rfl)) (fun cdv A outer s H vs Q E hr h => ⟨_, (pss_one (ps_ret (pe_callTy call_tupF (by rfl) T.n_tuple (by decide +kernel) (pa_cons (pe_lc (own := [("point", 1), ("after", 2)]) rfl sc_Polygon_sticks.nd (pi_any (pe_c c_sides_of hr (by decide) rfl (pa_cons (pe_fld (pv 0) rfl) pa_nil))) (blkOk_by (own := [("point", 1), ("after", 2)]) (N := ["self", "point", "after"]) (sc := defScope s_Polygon_sticks) (by decide +kernel)) (fun _ _ _ _ _ => (pg_tupK K 2 (by rfl) (pgs_cons (pg_name (i := 1) sc_Polygon_sticks.nd rfl (Or.inl rfl)) (pgs_cons (pg_name (i := 2) sc_Polygon_sticks.nd rfl (Or.inl rfl)) pgs_nil)) (by rfl))) (fun _ _ _ _ _ => pts_nil) (fun _ _ _ _ _ => (pe_c c_minus hr (by decide) rfl (pa_cons (pv 2) (pa_cons (pv 1) pa_nil))))) pa_nil)))), enter h ?_⟩)
  try dsimp only [cxOf, Cx.nox, Cx.wish]
  rintro ps ds M ⟨rfl, hl⟩
  refine sx_ret (ex_cb ?_)
  refine ax_cons (ex_lcm (by first | exact gw_tup (gw_cons (gw_name (by decide)) (gw_cons (gw_name (by decide)) gw_nil gm_name) gm_name)) ?_)
  refine ix_any (ex_callP ?_)
  refine ax_cons (ex_fld ?_)
  walk_at "w"
  refine ⟨C, _, Pts ps, rfl, T.cl, T.nP, rfl, ?_⟩
  walk_at "w"
  refine ⟨hl, ?_⟩
  refine ⟨_, _, .inl ⟨.inl rfl, rfl⟩, ?_, trivial, (sticksP ps).map P2, ?_, ?_, ?_⟩
  · rw [pairD_length]
    exact Nat.lt_of_le_of_lt (Nat.min_le_left _ _) (Nat.lt_of_le_of_lt hl (by decide))
  · rw [pairD_length, List.length_map, sticksP_length, rot_length, Nat.min_self]
  · intro i d z hi hz
    obtain ⟨p, q, hp, hq, rfl⟩ := pairD_get hi
    rw [List.getElem?_map, sticksP_get hp hq] at hz
    cases hz
    walk_at "w"
    refine ex_callP ?_
    walk_at "w"
    exact ⟨(q, p), rfl, trivial, rfl, rfl⟩
  · walk_at "w"
    exact cx_tupF (ret_pure rfl (Sub.refl M))
end
end Wk
namespace Wk
open PySem L2 Evl
local macro_rules | `(tactic| walk_at "w1") => `(tactic| first
  | ((with_reducible refine' ex_var ?hv ?_); (case hv => rfl))
  | ((with_reducible refine' rx_ix_tup ?hv ?_); (case hv => rfl))
  | ((with_reducible refine' rx_ix_lst ?hv ?_); (case hv => rfl))
  | ((with_reducible refine' gx_tup ?hv ?_); (case hv => rfl))
  | ((with_reducible refine' rx_ix_cell ?hm ?hv ?_); (case hm => first | assumption | exact put_same); (case hv => rfl))
  | ((with_reducible refine' cx_len_cell ?hm ?_); (case hm => first | assumption | exact put_same))
  | ((with_reducible refine' rx_Ii ?hc ?_); (case hc => first | assumption | exact ⟨by decide, by decide +kernel⟩ | (show (0 : Int) < _; omega) | (show (0 : Int) < _; decide)))
  | ((with_reducible refine' rx_mul_int ?hc ?_); (case hc => first | assumption | exact cmul_l (by decide) (by decide) | exact cmul_r (by decide) (by decide)))
  | with_reducible refine ex_int ?_
  | with_reducible refine ex_str ?_
  | with_reducible refine ex_bl ?_
  | with_reducible refine ex_non ?_
  | with_reducible refine ex_raw ?_
  | with_reducible refine ex_op ?_
  | with_reducible refine ex_un ?_
  | with_reducible refine ex_cb ?_
  | with_reducible refine ex_tup ?_
  | with_reducible refine ex_sl ?_
  | with_reducible refine ox_none ?_
  | with_reducible refine ox_some ?_
  | with_reducible refine ax_nil ?_
  | with_reducible refine ax_cons ?_
  | with_reducible refine ex_if ?_
  | with_reducible refine ex_andV ?_
  | with_reducible refine ex_orV ?_
  | with_reducible refine ex_notV ?_
  | with_reducible refine ex_m0 ?_
  | with_reducible refine ex_m1 ?_
  | with_reducible refine tx_test ?_
  | with_reducible refine tx_B ?_
  | with_reducible refine tx_and ?_
  | with_reducible refine tx_or ?_
  | with_reducible refine tx_not ?_
  | with_reducible refine tx_yes ?_
  | with_reducible refine sx_seq ?_
  | with_reducible refine sx_set ?_
  | with_reducible refine sx_ret ?_
  | with_reducible refine sx_drop ?_
  | with_reducible refine sx_next ?_
  | with_reducible refine sx_if ?_
  | with_reducible refine sx_retN ?_
  | with_reducible refine sx_asg ?_
  | with_reducible refine sx_par ?_
  | with_reducible refine gx_name ?_
  | with_reducible refine gxs_cons ?_
  | with_reducible refine gxs_nil ?_
  | with_reducible refine rx_add_int ?_
  | with_reducible refine rx_I0i ?_
  | with_reducible refine rx_I0b ?_
  | with_reducible refine rx_eq_int ?_
  | with_reducible refine rx_ne_int ?_
  | with_reducible refine rx_eq_str ?_
  | with_reducible refine rx_ne_str ?_
  | with_reducible refine rx_eq_bl ?_
  | with_reducible refine rx_ne_bl ?_
  | with_reducible refine lx_tup ?_
  | with_reducible refine lx_lst ?_
  | with_reducible refine cx_len_tup ?_
  | with_reducible refine cx_len_lst ?_
  | with_reducible refine cx_len_frl ?_
  | with_reducible refine cx_max2 ?_
  | with_reducible refine ux_neg ?_
  | with_reducible refine cx_list_lst ?_
  | with_reducible refine cx_tuple_lst ?_
  | with_reducible refine cx_tuple_tup ?_
  | with_reducible refine mx_isdigit ?_
  | with_reducible refine mx_startswith ?_
  | with_reducible refine ix_any ?_
  | with_reducible refine And.intro (Nat.le_of_ble_eq_true rfl) ?_
  | refine Exists.intro _ (And.intro rfl ?_))
local macro_rules | `(tactic| walk_at "w") => `(tactic| repeat (walk_at "w1"))
section
variable {P : Program} {w : World} {K : PySem.W.Frag} {mg : Str → Option Value} {base : Heap} {C WE BP BT NC BJ S BW TM TF BS UN NP UF DP DF J UR SC JC CG RB RS FJ f g : Addr} {fd : FuncData}
theorem ok_StickCount_holds {f : Addr} {fd : FuncData} (F : Fun K "holds" "StickCount.holds" s_StickCount_holds f fd) (T : Tx K mg C) (TR : TxR K mg JC SC CG) (c_sticksF : PrpR P w K mg base 2 C "sticks" (spSticksF K C)) : FnOk P w K mg base CX0 4 f fd ["self", "start", "goal"] (spHoldS K C SC) := by
  refine F.ok sc_StickCount_holds (spD_len (n := 3) (fun x ds M h => by rw [h.1] <;> rfl)) (fun cdv A outer s H vs Q E hr h => ⟨_, (pss_one (ps_ret (pe_cmpR (op_neA hr.units) (pe_tm PySem.F.plainAttrs_tuple PySem.F.slot_tuple_count PySem.F.type_tuple_count (mt_tcountK K (by rfl) (u65 hr)) (pe_pR c_sticksF hr (by decide) (pv 1)) (pa_cons (pe_fld (pv 0) rfl) pa_nil)) (pe_tm PySem.F.plainAttrs_tuple PySem.F.slot_tuple_count PySem.F.type_tuple_count (mt_tcountK K (by rfl) (u65 hr)) (pe_pR c_sticksF hr (by decide) (pv 2)) (pa_cons (pe_fld (pv 0) rfl) pa_nil)) (nomark _)))), enter h ?_⟩)
  try dsimp only [cxOf, Cx.nox, Cx.wish]
  rintro ⟨v, ps, qs⟩ ds M ⟨rfl, h1, h2⟩
  dsimp only at *
  refine sx_ret (ex_op (ex_tcount (ps := sticksP ps) (p := v) (ex_sticksF h1 (ex_var rfl ⟨rfl, rfl, ax_cons (ex_fld (ex_var rfl ⟨SC, _, _, rfl, TR.clS, TR.nS, rfl, ax_nil ⟨rfl, ?_⟩⟩))⟩))))
  refine ex_tcount (ps := sticksP qs) (p := v) (ex_sticksF h2 (ex_var rfl ⟨rfl, rfl, ax_cons (ex_fld (ex_var rfl ⟨SC, _, _, rfl, TR.clS, TR.nS, rfl, ax_nil ⟨rfl, ?_⟩⟩))⟩))
  refine rx_ne_int (ret_pure ?_ (Sub.refl _))
  by_cases e : (sticksP ps).count v = (sticksP qs).count v
  · simp [e]
  · simp [e, Int.natCast_inj]
end
end Wk
namespace Wk
open PySem L2 Evl
local macro_rules | `(tactic| walk_at "w1") => `(tactic| first
  | ((with_reducible refine' ex_var ?hv ?_); (case hv => rfl))
  | ((with_reducible refine' rx_ix_tup ?hv ?_); (case hv => rfl))
  | ((with_reducible refine' rx_ix_lst ?hv ?_); (case hv => rfl))
  | ((with_reducible refine' gx_tup ?hv ?_); (case hv => rfl))
  | ((with_reducible refine' rx_ix_cell ?hm ?hv ?_); (case hm => first | assumption | exact put_same); (case hv => rfl))
  | ((with_reducible refine' cx_len_cell ?hm ?_); (case hm => first | assumption | exact put_same))
  | ((with_reducible refine' rx_Ii ?hc ?_); (case hc => first | assumption | exact ⟨by decide, by decide +kernel⟩ | (show (0 : Int) < _; omega) | (show (0 : Int) < _; decide)))
  | ((with_reducible refine' rx_mul_int ?hc ?_); (case hc => first | assumption | exact cmul_l (by decide) (by decide) | exact cmul_r (by decide) (by decide)))
  | with_reducible refine ex_int ?_
  | with_reducible refine ex_str ?_
  | with_reducible refine ex_bl ?_
  | with_reducible refine ex_non ?_
  | with_reducible refine ex_raw ?_
  | with_reducible refine ex_op ?_
  | with_reducible refine ex_un ?_
  | with_reducible refine ex_cb ?_
  | with_reducible refine ex_tup ?_
  | with_reducible refine ex_sl ?_
  | with_reducible refine ox_none ?_
  | with_reducible refine ox_some ?_
  | with_reducible refine ax_nil ?_
  | with_reducible refine ax_cons ?_
  | with_reducible refine ex_if ?_
  | with_reducible refine ex_andV ?_
  | with_reducible refine ex_orV ?_
  | with_reducible refine ex_notV ?_
  | with_reducible refine ex_m0 ?_
  | with_reducible refine ex_m1 ?_
  | with_reducible refine tx_test ?_
  | with_reducible refine tx_B ?_
  | with_reducible refine tx_and ?_
  | with_reducible refine tx_or ?_
  | with_reducible refine tx_not ?_
  | with_reducible refine tx_yes ?_
  | with_reducible refine sx_seq ?_
  | with_reducible refine sx_set ?_
  | with_reducible refine sx_ret ?_
  | with_reducible refine sx_drop ?_
  | with_reducible refine sx_next ?_
  | with_reducible refine sx_if ?_
  | with_reducible refine sx_retN ?_
  | with_reducible refine sx_asg ?_
  | with_reducible refine sx_par ?_
  | with_reducible refine gx_name ?_
  | with_reducible refine gxs_cons ?_
  | with_reducible refine gxs_nil ?_
  | with_reducible refine rx_add_int ?_
  | with_reducible refine rx_I0i ?_
  | with_reducible refine rx_I0b ?_
  | with_reducible refine rx_eq_int ?_
  | with_reducible refine rx_ne_int ?_
  | with_reducible refine rx_eq_str ?_
  | with_reducible refine rx_ne_str ?_
  | with_reducible refine rx_eq_bl ?_
  | with_reducible refine rx_ne_bl ?_
  | with_reducible refine lx_tup ?_
  | with_reducible refine lx_lst ?_
  | with_reducible refine cx_len_tup ?_
  | with_reducible refine cx_len_lst ?_
  | with_reducible refine cx_len_frl ?_
  | with_reducible refine cx_max2 ?_
  | with_reducible refine ux_neg ?_
  | with_reducible refine cx_list_lst ?_
  | with_reducible refine cx_tuple_lst ?_
  | with_reducible refine cx_tuple_tup ?_
  | with_reducible refine mx_isdigit ?_
  | with_reducible refine mx_startswith ?_
  | with_reducible refine ix_any ?_
  | with_reducible refine And.intro (Nat.le_of_ble_eq_true rfl) ?_
  | refine Exists.intro _ (And.intro rfl ?_))
local macro_rules | `(tactic| walk_at "w") => `(tactic| repeat (walk_at "w1"))
section
variable {P : Program} {w : World} {K : PySem.W.Frag} {mg : Str → Option Value} {base : Heap} {C WE BP BT NC BJ S BW TM TF BS UN NP UF DP DF J UR SC JC CG RB RS FJ f g : Addr} {fd : FuncData}
theorem ok_differences {f : Addr} {fd : FuncData} (F : Fun K "differences" "differences" s_differences f fd) (T : Tx K mg C) (c_minus : Cal P w K mg base 1 "minus" (spMinus K)) : FnOk P w K mg base CX0 2 f fd ["vectors"] (spDiff K) := by
  refine F.ok sc_differences (spD_len (n := 1) (fun x ds M h => by rw [h.1] <;> rfl)) (fun cdv A outer s H vs Q E hr h => ⟨_, (pss_one (ps_ret (pe_lc (own := [("vector", 1)]) rfl sc_differences.nd (pi_any (pe_slice sl_any (pv 0) (po_some pe_int) po_none)) (blkOk_by (own := [("vector", 1)]) (N := ["vectors", "vector"]) (sc := defScope s_differences) (by decide +kernel)) (fun _ _ _ _ _ => (pg_name (i := 1) sc_differences.nd rfl (Or.inl rfl))) (fun _ _ _ _ _ => pts_nil) (fun _ _ _ _ _ => (pe_c c_minus hr (by decide) rfl (pa_cons (pv 1) (pa_cons (pe_ix (ix_seqK K (by rfl)) (pv 0) pe_int (fun _ _ => rfl)) pa_nil))))))), enter h ?_⟩)
  try dsimp only [cxOf, Cx.nox, Cx.wish]
  rintro es ds M ⟨rfl, h1, h8⟩
  refine sx_ret (ex_lcm (by exact gw_name (by decide)) (ix_any ?_))
  walk_at "w"
  rw [cutD_from1]
  refine ⟨_, _, .inl ⟨.inr (.inr rfl), rfl⟩, ?_, trivial, (diffP es).map P2, ?_, ?_, ret_pure rfl (Sub.refl M)⟩
  · rw [List.length_drop, List.length_map]
    exact Nat.lt_of_le_of_lt (Nat.sub_le _ _) (Nat.lt_of_le_of_lt h8 (by decide))
  · rw [List.length_map, List.length_drop, List.length_map, diff_len]
  · intro i d z hi hz
    rw [List.getElem?_drop, List.getElem?_map] at hi
    obtain ⟨e, he, rfl⟩ := Option.map_eq_some_iff.mp hi
    have hz2 : (diffP es)[i]? = some (subP e (ptD es 0)) := by
      unfold diffP
      rw [List.getElem?_map, List.getElem?_tail, Nat.add_comm i 1, he] <;> rfl
    rw [List.getElem?_map, hz2] at hz
    cases hz
    have h0 : atI (es.map P2) 0 = some (P2 (ptD es 0)) := by
      cases es with
      | nil => cases he
      | cons x es => exact atI_at (j := 0) rfl
    refine gx_name (ex_callP (ax_cons (ex_var rfl (ax_cons (ex_op (ex_var rfl (ex_int (rx_ix_tup h0 (ax_nil ⟨(e, ptD es 0), rfl, trivial, rfl, rfl⟩)))))))))
end
end Wk
namespace Wk
open PySem L2 Evl
local macro_rules | `(tactic| walk_at "w1") => `(tactic| first
  | ((with_reducible refine' ex_var ?hv ?_); (case hv => rfl))
  | ((with_reducible refine' rx_ix_tup ?hv ?_); (case hv => rfl))
  | ((with_reducible refine' rx_ix_lst ?hv ?_); (case hv => rfl))
  | ((with_reducible refine' gx_tup ?hv ?_); (case hv => rfl))
  | ((with_reducible refine' rx_ix_cell ?hm ?hv ?_); (case hm => first | assumption | exact put_same); (case hv => rfl))
  | ((with_reducible refine' cx_len_cell ?hm ?_); (case hm => first | assumption | exact put_same))
  | ((with_reducible refine' rx_Ii ?hc ?_); (case hc => first | assumption | exact ⟨by decide, by decide +kernel⟩ | (show (0 : Int) < _; omega) | (show (0 : Int) < _; decide)))
  | ((with_reducible refine' rx_mul_int ?hc ?_); (case hc => first | assumption | exact cmul_l (by decide) (by decide) | exact cmul_r (by decide) (by decide)))
  | with_reducible refine ex_int ?_
  | with_reducible refine ex_str ?_
  | with_reducible refine ex_bl ?_
  | with_reducible refine ex_non ?_
  | with_reducible refine ex_raw ?_
  | with_reducible refine ex_op ?_
  | with_reducible refine ex_un ?_
  | with_reducible refine ex_cb ?_
  | with_reducible refine ex_tup ?_
  | with_reducible refine ex_sl ?_
  | with_reducible refine ox_none ?_
  | with_reducible refine ox_some ?_
  | with_reducible refine ax_nil ?_
  | with_reducible refine ax_cons ?_
  | with_reducible refine ex_if ?_
  | with_reducible refine ex_andV ?_
  | with_reducible refine ex_orV ?_
  | with_reducible refine ex_notV ?_
  | with_reducible refine ex_m0 ?_
  | with_reducible refine ex_m1 ?_
  | with_reducible refine tx_test ?_
  | with_reducible refine tx_B ?_
  | with_reducible refine tx_and ?_
  | with_reducible refine tx_or ?_
  | with_reducible refine tx_not ?_
  | with_reducible refine tx_yes ?_
  | with_reducible refine sx_seq ?_
  | with_reducible refine sx_set ?_
  | with_reducible refine sx_ret ?_
  | with_reducible refine sx_drop ?_
  | with_reducible refine sx_next ?_
  | with_reducible refine sx_if ?_
  | with_reducible refine sx_retN ?_
  | with_reducible refine sx_asg ?_
  | with_reducible refine sx_par ?_
  | with_reducible refine gx_name ?_
  | with_reducible refine gxs_cons ?_
  | with_reducible refine gxs_nil ?_
  | with_reducible refine rx_add_int ?_
  | with_reducible refine rx_I0i ?_
  | with_reducible refine rx_I0b ?_
  | with_reducible refine rx_eq_int ?_
  | with_reducible refine rx_ne_int ?_
  | with_reducible refine rx_eq_str ?_
  | with_reducible refine rx_ne_str ?_
  | with_reducible refine rx_eq_bl ?_
  | with_reducible refine rx_ne_bl ?_
  | with_reducible refine lx_tup ?_
  | with_reducible refine lx_lst ?_
  | with_reducible refine cx_len_tup ?_
  | with_reducible refine cx_len_lst ?_
  | with_reducible refine cx_len_frl ?_
  | with_reducible refine cx_max2 ?_
  | with_reducible refine ux_neg ?_
  | with_reducible refine cx_list_lst ?_
  | with_reducible refine cx_tuple_lst ?_
  | with_reducible refine cx_tuple_tup ?_
  | with_reducible refine mx_isdigit ?_
  | with_reducible refine mx_startswith ?_
  | with_reducible refine ix_any ?_
  | with_reducible refine And.intro (Nat.le_of_ble_eq_true rfl) ?_
  | refine Exists.intro _ (And.intro rfl ?_))
local macro_rules | `(tactic| walk_at "w") => `(tactic| repeat (walk_at "w1"))
section
variable {P : Program} {w : World} {K : PySem.W.Frag} {mg : Str → Option Value} {base : Heap} {C WE BP BT NC BJ S BW TM TF BS UN NP UF DP DF J UR SC JC CG RB RS FJ f g : Addr} {fd : FuncData}
theorem ok_Congruencevanishes {f : Addr} {fd : FuncData} (F : Fun K "_vanishes" "Congruence._vanishes" s_Congruencevanishes f fd) (T : Tx K mg C) (TR : TxR K mg JC SC CG) : FnOk P w K mg base CX0 1 f fd ["self", "vector"] (spVan K CG) := by
  refine F.ok sc_Congruencevanishes (spD_len (n := 2) (fun x ds M h => by rw [h.1] <;> rfl)) (fun cdv A outer s H vs Q E hr h => ⟨_, (pss_cons (ps_set (i := 2) sc_Congruencevanishes.nd rfl (Or.inl rfl) (pe_op op_addA (pe_op op_mulA (pe_fld (pv 0) rfl) (pe_ix ix_seq (pv 1) pe_int (fun _ _ => rfl))) (pe_op op_mulA (pe_fld (pv 0) rfl) (pe_ix ix_seq (pv 1) pe_int (fun _ _ => rfl))))) (pss_one (ps_ret (pe_ifExp (pt_cmpR (op_eqA hr.units) (pe_fld (pv 0) rfl) pe_int (nomark _)) (pe_cmpR (op_eqA hr.units) (pv 2) pe_int (nomark _)) (pe_cmpR (op_eqA hr.units) (pe_op op_mod (pv 2) (pe_fld (pv 0) rfl)) pe_int (nomark _)))))), enter h ?_⟩)
  try dsimp only [cxOf, Cx.nox, Cx.wish]
  rintro ⟨c, v⟩ ds M ⟨rfl, hc, hv⟩
  dsimp only at *
  refine sx_seq (sx_set (ex_op (ex_op (ex_fld (ex_var rfl ⟨CG, _, _, rfl, TR.clC, TR.nA, rfl, ?_⟩)))))
  refine ex_op (ex_var rfl (ex_int (rx_ix_tup rfl (rx_mul_int (cmul_e hc.w.1 (sm_w hv).1) ?_))))
  refine ex_op (ex_fld (ex_var rfl ⟨CG, _, _, rfl, TR.clC, TR.nB, rfl, ?_⟩))
  refine ex_op (ex_var rfl (ex_int (rx_ix_tup rfl (rx_mul_int (cmul_e hc.w.2.1 (sm_w hv).2) (rx_add_int ?_)))))
  unfold vanF
  refine sx_ret (ex_if (tx_test (ex_op (ex_fld (ex_var rfl ⟨CG, _, _, rfl, TR.clC, TR.nM, rfl, ex_int (rx_eq_int ⟨_, rfl, fun hw => ?_, fun hw => ?_⟩)⟩)))))
  · rw [if_pos (dT hw)]
    exact ex_op (ex_var rfl (ex_int (rx_eq_int (ret_pure rfl (Sub.refl M)))))
  · have hm : 0 < c.2.2 := by
      have h1 := hc.m0
      have h2 := dF hw
      clear hc hv
      omega
    rw [if_neg (dF hw)]
    exact ex_op (ex_op (ex_var rfl (ex_fld (ex_var rfl ⟨CG, _, _, rfl, TR.clC, TR.nM, rfl, rx_Ii hm (ex_int (rx_eq_int (ret_pure rfl (Sub.refl M))))⟩))))
end
end Wk
namespace Wk
open PySem L2 Evl
local macro_rules | `(tactic| walk_at "w1") => `(tactic| first
  | ((with_reducible refine' ex_var ?hv ?_); (case hv => rfl))
  | ((with_reducible refine' rx_ix_tup ?hv ?_); (case hv => rfl))
  | ((with_reducible refine' rx_ix_lst ?hv ?_); (case hv => rfl))
  | ((with_reducible refine' gx_tup ?hv ?_); (case hv => rfl))
  | ((with_reducible refine' rx_ix_cell ?hm ?hv ?_); (case hm => first | assumption | exact put_same); (case hv => rfl))
  | ((with_reducible refine' cx_len_cell ?hm ?_); (case hm => first | assumption | exact put_same))
  | ((with_reducible refine' rx_Ii ?hc ?_); (case hc => first | assumption | exact ⟨by decide, by decide +kernel⟩ | (show (0 : Int) < _; omega) | (show (0 : Int) < _; decide)))
  | ((with_reducible refine' rx_mul_int ?hc ?_); (case hc => first | assumption | exact cmul_l (by decide) (by decide) | exact cmul_r (by decide) (by decide)))
  | with_reducible refine ex_int ?_
  | with_reducible refine ex_str ?_
  | with_reducible refine ex_bl ?_
  | with_reducible refine ex_non ?_
  | with_reducible refine ex_raw ?_
  | with_reducible refine ex_op ?_
  | with_reducible refine ex_un ?_
  | with_reducible refine ex_cb ?_
  | with_reducible refine ex_tup ?_
  | with_reducible refine ex_sl ?_
  | with_reducible refine ox_none ?_
  | with_reducible refine ox_some ?_
  | with_reducible refine ax_nil ?_
  | with_reducible refine ax_cons ?_
  | with_reducible refine ex_if ?_
  | with_reducible refine ex_andV ?_
  | with_reducible refine ex_orV ?_
  | with_reducible refine ex_notV ?_
  | with_reducible refine ex_m0 ?_
  | with_reducible refine ex_m1 ?_
  | with_reducible refine tx_test ?_
  | with_reducible refine tx_B ?_
  | with_reducible refine tx_and ?_
  | with_reducible refine tx_or ?_
  | with_reducible refine tx_not ?_
  | with_reducible refine tx_yes ?_
  | with_reducible refine sx_seq ?_
  | with_reducible refine sx_set ?_
  | with_reducible refine sx_ret ?_
  | with_reducible refine sx_drop ?_
  | with_reducible refine sx_next ?_
  | with_reducible refine sx_if ?_
  | with_reducible refine sx_retN ?_
  | with_reducible refine sx_asg ?_
  | with_reducible refine sx_par ?_
  | with_reducible refine gx_name ?_
  | with_reducible refine gxs_cons ?_
  | with_reducible refine gxs_nil ?_
  | with_reducible refine rx_add_int ?_
  | with_reducible refine rx_I0i ?_
  | with_reducible refine rx_I0b ?_
  | with_reducible refine rx_eq_int ?_
  | with_reducible refine rx_ne_int ?_
  | with_reducible refine rx_eq_str ?_
  | with_reducible refine rx_ne_str ?_
  | with_reducible refine rx_eq_bl ?_
  | with_reducible refine rx_ne_bl ?_
  | with_reducible refine lx_tup ?_
  | with_reducible refine lx_lst ?_
  | with_reducible refine cx_len_tup ?_
  | with_reducible refine cx_len_lst ?_
  | with_reducible refine cx_len_frl ?_
  | with_reducible refine cx_max2 ?_
  | with_reducible refine ux_neg ?_
  | with_reducible refine cx_list_lst ?_
  | with_reducible refine cx_tuple_lst ?_
  | with_reducible refine cx_tuple_tup ?_
  | with_reducible refine mx_isdigit ?_
  | with_reducible refine mx_startswith ?_
  | with_reducible refine ix_any ?_
  | with_reducible refine And.intro (Nat.le_of_ble_eq_true rfl) ?_
  | refine Exists.intro _ (And.intro rfl ?_))
local macro_rules | `(tactic| walk_at "w") => `(tactic| repeat (walk_at "w1"))
section
variable {P : Program} {w : World} {K : PySem.W.Frag} {mg : Str → Option Value} {base : Heap} {C WE BP BT NC BJ S BW TM TF BS UN NP UF DP DF J UR SC JC CG RB RS FJ f g : Addr} {fd : FuncData}
theorem ok_Congruence_holds {f : Addr} {fd : FuncData} (F : Fun K "holds" "Congruence.holds" s_Congruence_holds f fd) (T : Tx K mg C) (TR : TxR K mg JC SC CG) (c_sticks : PrpR P w K mg base 2 C "sticks" (spSticks K C)) (c_differences : Cal P w K mg base 2 "differences" (spDiff K)) (c_minus : Cal P w K mg base 1 "minus" (spMinus K)) (c_van : MetR P w K mg base 1 CG "_vanishes" (spVan K CG)) : FnOk P w K mg base CX0 4 f fd ["self", "start", "goal"] (spHoldC K C CG) := by
  refine F.ok sc_Congruence_holds (spD_len (n := 3) (fun x ds M h => by rw [h.1] <;> rfl)) (fun cdv A outer s H vs Q E hr h => ⟨_, (pss_cons (ps_set (i := 3) sc_Congruence_holds.nd rfl (Or.inl rfl) (pe_callB (cr_all rfl) (by rfl) T.n_all (by decide +kernel) (pa_cons (pe_lc (own := [("vector", 4)]) rfl sc_Congruence_holds.nd (pi_any (pe_c c_differences hr (by decide) rfl (pa_cons (pe_pR c_sticks hr (by decide) (pv 1)) pa_nil))) (blkOk_by (own := [("vector", 4)]) (N := ["self", "start", "goal", "agree", "vector"]) (sc := defScope s_Congruence_holds) (by decide +kernel)) (fun _ _ _ _ _ => (pg_name (i := 4) sc_Congruence_holds.nd rfl (Or.inl rfl))) (fun _ _ _ _ _ => pts_nil) (fun _ _ _ _ _ => (pe_mR c_van hr (by decide) (pv 0) (pa_cons (pv 4) pa_nil)))) pa_nil))) (pss_one (ps_ret (pe_and (pv 3) (pe_one (pe_not (pe_mR c_van hr (by decide) (pv 0) (pa_cons (pe_c c_minus hr (by decide) rfl (pa_cons (pe_ix ix_seq (pe_fld (pv 2) rfl) pe_int (fun _ _ => rfl)) (pa_cons (pe_ix ix_seq (pe_fld (pv 1) rfl) pe_int (fun _ _ => rfl)) pa_nil))) pa_nil)))))))), enter h ?_⟩)
  try dsimp only [cxOf, Cx.nox, Cx.wish]
  rintro ⟨c, ps, qs⟩ ds M ⟨rfl, hc, hp, hq⟩
  dsimp only at *
  have hl1 : ps.length ≤ 1000 := Nat.le_trans hp.l8 (by decide)
  refine sx_seq (sx_set (ex_cb (ax_cons (ex_lcm (by exact gw_name (by decide)) (ix_any (ex_callP (ax_cons (ex_sticks hl1 (ex_var rfl ⟨rfl, ax_nil ?_⟩)))))))))
  refine ⟨sticksP ps, rfl, ⟨by rw [sticksP_length]; exact Nat.le_trans (by decide) hp.l3, by rw [sticksP_length]; exact hp.l8⟩, ?_⟩
  refine ⟨_, _, .inl ⟨.inl rfl, rfl⟩, ?_, trivial, ((diffP (sticksP ps)).map (vanF c)).map Dt.bl, ?_, ?_, ?_⟩
  · rw [List.length_map]
    exact Nat.lt_of_le_of_lt hp.len (by decide)
  · rw [List.length_map, List.length_map, List.length_map]
  · intro i d z hi hz
    rw [List.getElem?_map] at hi
    obtain ⟨v, hv, rfl⟩ := Option.map_eq_some_iff.mp hi
    rw [List.getElem?_map, List.getElem?_map, hv] at hz
    cases hz
    have hs := smP_mono (hp.diff v (List.mem_of_getElem? hv)) (show 2 ^ 50 ≤ 2 ^ 60 by decide)
    refine gx_name (ex_methP (ex_var rfl ⟨_, rfl, rfl, ax_cons (ex_var rfl (ax_nil ⟨(c, v), rfl, ⟨hc, hs⟩, rfl, rfl⟩))⟩))
  refine ax_nil (cx_all ?_)
  rw [List.all_map, show (id ∘ vanF c) = vanF c from rfl]
  show SX K _ _ _ _
  unfold holdC
  refine sx_ret (ex_andV (ex_var rfl ⟨_, rfl, fun hw => ?_, fun hw => ?_⟩))
  · refine ex_notV (ex_methP (ex_var rfl ⟨_, rfl, rfl, ax_cons (ex_callP (ax_cons (ex_op (ex_fld (ex_var rfl ⟨C, _, Pts qs, rfl, T.cl, T.nP, rfl, ex_int (rx_ix_tup (pt_at hq.pos) (ax_cons (ex_op (ex_fld (ex_var rfl ⟨C, _, Pts ps, rfl, T.cl, T.nP, rfl, ex_int (rx_ix_tup (pt_at hp.pos) (ax_nil ⟨(ptD qs 0, ptD ps 0), rfl, trivial, ax_nil ⟨(c, subP (ptD qs 0) (ptD ps 0)), rfl, ⟨hc, hp.mot hq⟩, _, rfl, ret_pure ?_ (Sub.refl M)⟩⟩))⟩)))))⟩)))))⟩))
    rw [hw, Bool.true_and]
  · refine ret_pure ?_ (Sub.refl M)
    rw [hw, Bool.false_and]
end
end Wk
namespace Wk
open PySem L2 Evl
local macro_rules | `(tactic| walk_at "w1") => `(tactic| first
  | ((with_reducible refine' ex_var ?hv ?_); (case hv => rfl))
  | ((with_reducible refine' rx_ix_tup ?hv ?_); (case hv => rfl))
  | ((with_reducible refine' rx_ix_lst ?hv ?_); (case hv => rfl))
  | ((with_reducible refine' gx_tup ?hv ?_); (case hv => rfl))
  | ((with_reducible refine' rx_ix_cell ?hm ?hv ?_); (case hm => first | assumption | exact put_same); (case hv => rfl))
  | ((with_reducible refine' cx_len_cell ?hm ?_); (case hm => first | assumption | exact put_same))
  | ((with_reducible refine' rx_Ii ?hc ?_); (case hc => first | assumption | exact ⟨by decide, by decide +kernel⟩ | (show (0 : Int) < _; omega) | (show (0 : Int) < _; decide)))
  | ((with_reducible refine' rx_mul_int ?hc ?_); (case hc => first | assumption | exact cmul_l (by decide) (by decide) | exact cmul_r (by decide) (by decide)))
  | with_reducible refine ex_int ?_
  | with_reducible refine ex_str ?_
  | with_reducible refine ex_bl ?_
  | with_reducible refine ex_non ?_
  | with_reducible refine ex_raw ?_
  | with_reducible refine ex_op ?_
  | with_reducible refine ex_un ?_
  | with_reducible refine ex_cb ?_
  | with_reducible refine ex_tup ?_
  | with_reducible refine ex_sl ?_
  | with_reducible refine ox_none ?_
  | with_reducible refine ox_some ?_
  | with_reducible refine ax_nil ?_
  | with_reducible refine ax_cons ?_
  | with_reducible refine ex_if ?_
  | with_reducible refine ex_andV ?_
  | with_reducible refine ex_orV ?_
  | with_reducible refine ex_notV ?_
  | with_reducible refine ex_m0 ?_
  | with_reducible refine ex_m1 ?_
  | with_reducible refine tx_test ?_
  | with_reducible refine tx_B ?_
  | with_reducible refine tx_and ?_
  | with_reducible refine tx_or ?_
  | with_reducible refine tx_not ?_
  | with_reducible refine tx_yes ?_
  | with_reducible refine sx_seq ?_
  | with_reducible refine sx_set ?_
  | with_reducible refine sx_ret ?_
  | with_reducible refine sx_drop ?_
  | with_reducible refine sx_next ?_
  | with_reducible refine sx_if ?_
  | with_reducible refine sx_retN ?_
  | with_reducible refine sx_asg ?_
  | with_reducible refine sx_par ?_
  | with_reducible refine gx_name ?_
  | with_reducible refine gxs_cons ?_
  | with_reducible refine gxs_nil ?_
  | with_reducible refine rx_add_int ?_
  | with_reducible refine rx_I0i ?_
  | with_reducible refine rx_I0b ?_
  | with_reducible refine rx_eq_int ?_
  | with_reducible refine rx_ne_int ?_
  | with_reducible refine rx_eq_str ?_
  | with_reducible refine rx_ne_str ?_
  | with_reducible refine rx_eq_bl ?_
  | with_reducible refine rx_ne_bl ?_
  | with_reducible refine lx_tup ?_
  | with_reducible refine lx_lst ?_
  | with_reducible refine cx_len_tup ?_
  | with_reducible refine cx_len_lst ?_
  | with_reducible refine cx_len_frl ?_
  | with_reducible refine cx_max2 ?_
  | with_reducible refine ux_neg ?_
  | with_reducible refine cx_list_lst ?_
  | with_reducible refine cx_tuple_lst ?_
  | with_reducible refine cx_tuple_tup ?_
  | with_reducible refine mx_isdigit ?_
  | with_reducible refine mx_startswith ?_
  | with_reducible refine ix_any ?_
  | with_reducible refine And.intro (Nat.le_of_ble_eq_true rfl) ?_
  | refine Exists.intro _ (And.intro rfl ?_))
local macro_rules | `(tactic| walk_at "w") => `(tactic| repeat (walk_at "w1"))
section
variable {P : Program} {w : World} {K : PySem.W.Frag} {mg : Str → Option Value} {base : Heap} {C WE BP BT NC BJ S BW TM TF BS UN NP UF DP DF J UR SC JC CG RB RS FJ f g : Addr} {fd : FuncData}
theorem ok_mixed {f : Addr} {fd : FuncData} (F : Fun K "mixed" "mixed" s_mixed f fd) (T : Tx K mg C)  : FnOk P w K mg base CX0 1 f fd ["factor", "row", "other_factor", "other"] (spMixed K) := by
  refine F.ok sc_mixed (spD_len (n := 4) (fun x ds M h => by rw [h.1] <;> rfl)) (fun cdv A outer s H vs Q E hr h => ⟨_, (pss_one (ps_ret (pe_callTy call_tuple_of (by rfl) T.n_tuple (by decide +kernel) (pa_cons (pe_lc (own := [("item", 4), ("beside", 5)]) rfl sc_mixed.nd (RZ.pi_zipA rfl T.n_zip (pa_cons (pv 1) (pa_cons (pv 3) pa_nil))) (blkOk_by (own := [("item", 4), ("beside", 5)]) (N := ["factor", "row", "other_factor", "other", "item", "beside"]) (sc := defScope s_mixed) (by decide +kernel)) (fun _ _ _ _ _ => (pg_tupK K 2 (by rfl) (pgs_cons (pg_name (i := 4) sc_mixed.nd rfl (Or.inl rfl)) (pgs_cons (pg_name (i := 5) sc_mixed.nd rfl (Or.inl rfl)) pgs_nil)) (by rfl))) (fun _ _ _ _ _ => pts_nil) (fun _ _ _ _ _ => (pe_op (op_addK K (by rfl)) (pe_op (op_mulK K (by rfl)) (pv 0) (pv 4)) (pe_op (op_mulK K (by rfl)) (pv 2) (pv 5))))) pa_nil)))), enter h ?_⟩)
  try dsimp only [cxOf, Cx.nox, Cx.wish]
  rintro ⟨a, r, b, s⟩ ds M ⟨rfl, hl, h50, ha, hb, hr, hs⟩
  dsimp only at *
  refine sx_ret (ex_cb (ax_cons (ex_lcm (by exact gw_tup (gw_cons (gw_name (by decide)) (gw_cons (gw_name (by decide)) gw_nil gm_name) gm_name)) (ix_zip (ax_cons (ex_var rfl (ax_cons (ex_var rfl (ax_nil ⟨r.map Dt.int, s.map Dt.int, .inl rfl, ?_⟩)))))))))
  have lz := zip_len Dt.int Dt.int hl
  refine ⟨by rw [lz]; exact Nat.lt_of_le_of_lt h50 (by decide), trivial, (mixF a r b s).map Dt.int, by rw [List.length_map, mix_len hl, lz], ?_, ax_nil (cx_tuple_lst (ret_pure rfl (Sub.refl M)))⟩
  intro i d z hi hz
  obtain ⟨x, y, h1, h2, rfl⟩ := zip_get hl hi
  unfold mixF at hz
  rw [List.getElem?_map, List.getElem?_zipWith, h1, h2] at hz
  cases hz
  refine gx_tup rfl (gxs_cons (gx_name (gxs_cons (gx_name (gxs_nil ?_)))))
  refine ex_op (ex_op (ex_var rfl (ex_var rfl (rx_mul_int (cmul_e ha (hr.at h1)) ?_))))
  refine ex_op (ex_var rfl (ex_var rfl (rx_mul_int (cmul_e hb (hs.at h2)) ?_)))
  exact rx_add_int ⟨rfl, rfl⟩
end
end Wk
namespace Wk
open PySem L2 Evl
local macro_rules | `(tactic| walk_at "w1") => `(tactic| first
  | ((with_reducible refine' ex_var ?hv ?_); (case hv => rfl))
  | ((with_reducible refine' rx_ix_tup ?hv ?_); (case hv => rfl))
  | ((with_reducible refine' rx_ix_lst ?hv ?_); (case hv => rfl))
  | ((with_reducible refine' gx_tup ?hv ?_); (case hv => rfl))
  | ((with_reducible refine' rx_ix_cell ?hm ?hv ?_); (case hm => first | assumption | exact put_same); (case hv => rfl))
  | ((with_reducible refine' cx_len_cell ?hm ?_); (case hm => first | assumption | exact put_same))
  | ((with_reducible refine' rx_Ii ?hc ?_); (case hc => first | assumption | exact ⟨by decide, by decide +kernel⟩ | (show (0 : Int) < _; omega) | (show (0 : Int) < _; decide)))
  | ((with_reducible refine' rx_mul_int ?hc ?_); (case hc => first | assumption | exact cmul_l (by decide) (by decide) | exact cmul_r (by decide) (by decide)))
  | with_reducible refine ex_int ?_
  | with_reducible refine ex_str ?_
  | with_reducible refine ex_bl ?_
  | with_reducible refine ex_non ?_
  | with_reducible refine ex_raw ?_
  | with_reducible refine ex_op ?_
  | with_reducible refine ex_un ?_
  | with_reducible refine ex_cb ?_
  | with_reducible refine ex_tup ?_
  | with_reducible refine ex_sl ?_
  | with_reducible refine ox_none ?_
  | with_reducible refine ox_some ?_
  | with_reducible refine ax_nil ?_
  | with_reducible refine ax_cons ?_
  | with_reducible refine ex_if ?_
  | with_reducible refine ex_andV ?_
  | with_reducible refine ex_orV ?_
  | with_reducible refine ex_notV ?_
  | with_reducible refine ex_m0 ?_
  | with_reducible refine ex_m1 ?_
  | with_reducible refine tx_test ?_
  | with_reducible refine tx_B ?_
  | with_reducible refine tx_and ?_
  | with_reducible refine tx_or ?_
  | with_reducible refine tx_not ?_
  | with_reducible refine tx_yes ?_
  | with_reducible refine sx_seq ?_
  | with_reducible refine sx_set ?_
  | with_reducible refine sx_ret ?_
  | with_reducible refine sx_drop ?_
  | with_reducible refine sx_next ?_
  | with_reducible refine sx_if ?_
  | with_reducible refine sx_retN ?_
  | with_reducible refine sx_asg ?_
  | with_reducible refine sx_par ?_
  | with_reducible refine gx_name ?_
  | with_reducible refine gxs_cons ?_
  | with_reducible refine gxs_nil ?_
  | with_reducible refine rx_add_int ?_
  | with_reducible refine rx_I0i ?_
  | with_reducible refine rx_I0b ?_
  | with_reducible refine rx_eq_int ?_
  | with_reducible refine rx_ne_int ?_
  | with_reducible refine rx_eq_str ?_
  | with_reducible refine rx_ne_str ?_
  | with_reducible refine rx_eq_bl ?_
  | with_reducible refine rx_ne_bl ?_
  | with_reducible refine lx_tup ?_
  | with_reducible refine lx_lst ?_
  | with_reducible refine cx_len_tup ?_
  | with_reducible refine cx_len_lst ?_
  | with_reducible refine cx_len_frl ?_
  | with_reducible refine cx_max2 ?_
  | with_reducible refine ux_neg ?_
  | with_reducible refine cx_list_lst ?_
  | with_reducible refine cx_tuple_lst ?_
  | with_reducible refine cx_tuple_tup ?_
  | with_reducible refine mx_isdigit ?_
  | with_reducible refine mx_startswith ?_
  | with_reducible refine ix_any ?_
  | with_reducible refine And.intro (Nat.le_of_ble_eq_true rfl) ?_
  | refine Exists.intro _ (And.intro rfl ?_))
local macro_rules | `(tactic| walk_at "w") => `(tactic| repeat (walk_at "w1"))
section
variable {P : Program} {w : World} {K : PySem.W.Frag} {mg : Str → Option Value} {base : Heap} {C WE BP BT NC BJ S BW TM TF BS UN NP UF DP DF J UR SC JC CG RB RS FJ f g : Addr} {fd : FuncData}
theorem ok_cleared {f : Addr} {fd : FuncData} (F : Fun K "cleared" "cleared" s_cleared f fd) (T : Tx K mg C) (c_mixed : Cal P w K mg base 1 "mixed" (spMixed K)) : FnOk P w K mg base CX0 2 f fd ["row", "other", "column"] (spCleared K) := by
  refine F.ok sc_cleared (spD_len (n := 3) (fun x ds M h => by rw [h.1] <;> rfl)) (fun cdv A outer s H vs Q E hr h => ⟨_, (pss_cons (ps_while PassesOwn.never (pt_cmpR (op_neA hr.units) (pe_ix ix_seq (pv 1) (pv 2) (fun _ _ => rfl)) pe_int (nomark _)) (pss_cons (ps_set (i := 3) sc_cleared.nd rfl (Or.inl rfl) (pe_op op_fdivN (pe_ix ix_seq (pv 0) (pv 2) (fun _ _ => rfl)) (pe_ix ix_seq (pv 1) (pv 2) (fun _ _ => rfl)))) (pss_one (ps_par (i := 0) (j := 1) (by rfl) sc_cleared.nd rfl rfl (by decide) rfl rfl (pa_cons (pv 1) (pa_cons (pe_c c_mixed hr (by decide) rfl (pa_cons pe_int (pa_cons (pv 0) (pa_cons (pe_un un_neg (pv 3)) (pa_cons (pv 1) pa_nil))))) pa_nil)) (by rfl))))) (pss_cons (ps_if (pt_cmpR op_lt (pe_ix ix_seq (pv 0) (pv 2) (fun _ _ => rfl)) pe_int (nomark _)) (pss_one (ps_set (i := 0) sc_cleared.nd rfl (Or.inl rfl) (pe_c c_mixed hr (by decide) rfl (pa_cons (pe_un un_neg pe_int) (pa_cons (pv 0) (pa_cons pe_int (pa_cons (pv 0) pa_nil))))))) pss_nil) (pss_one (ps_ret (pe_tup (pa_cons (pv 0) (pa_cons (pv 1) pa_nil))))))), enter h ?_⟩)
  try dsimp only [cxOf, Cx.nox, Cx.wish]
  rintro ⟨r, o, c, E, D⟩ ds M ⟨rfl, hl, h50, hc, hr, ho, rc, oc, hD, hC⟩
  dsimp only at *
  have bE : E ≤ E * (D + 3) * (D + 1) := le_mul3 _ _ _
  generalize hCe : E * (D + 3) * (D + 1) = C at *
  have hD1 : D + 1 < 2 ^ 200000 := Nat.lt_of_le_of_lt (Nat.succ_le_of_lt hD) (Nat.pow_lt_pow_right (by decide) (by decide))
  have toEB : ∀ {s : List Int}, (∀ j, (at0 s j).natAbs ≤ C) → EB s := fun h j => Nat.lt_of_le_of_lt (h j) hC
  have dv : ∀ {x y : Int}, x ≠ 0 → x.natAbs ≤ D → CDivN y x := fun h1 h2 => cdivn (n := 8000) h1 (Nat.lt_of_le_of_lt h2 hD) (by decide)
  have qv : ∀ {x y : Int}, y ≠ 0 → x.natAbs ≤ D → (-(x.fdiv y)).natAbs < 2 ^ 200000 := fun h1 h2 => by
    rw [Int.natAbs_neg]
    exact Nat.lt_of_le_of_lt (Nat.le_trans (fdiv_le h1) (Nat.succ_le_succ h2)) hD1
  clear hD hC hD1
  refine sx_seqc (fun ρ' M' => M' = M ∧ ∃ r' o' q, ρ' = [some (I1 r'), some (I1 o'), some (.int (c : Nat)), q] ∧ r'.length = r.length ∧ o'.length = r.length ∧ clrN (at0 o c).natAbs r o c = (r', o') ∧ EB r' ∧ (at0 r' c).natAbs ≤ D ∧ EB o') (sx_while (m0 := (at0 o c).natAbs) (fun m ρ' M' => M' = M ∧ ∃ r' o' q, ρ' = [some (I1 r'), some (I1 o'), some (.int (c : Nat)), q] ∧ r'.length = r.length ∧ o'.length = r.length ∧ (at0 o' c).natAbs ≤ m ∧ clrN (at0 o c).natAbs r o c = clrN m r' o' c ∧ EB r' ∧ EB o' ∧ (at0 r' c).natAbs ≤ D ∧ (at0 o' c).natAbs ≤ D ∧
    ((r' = r ∧ o' = o) ∨ BdI (fun _ => True) C D r' o' c)) ?_ ?_) ?_
  · exact ⟨rfl, r, o, _, rfl, rfl, hl.symm, Nat.le_refl _, rfl, toEB fun j => Nat.le_trans (hr j) bE, toEB fun j => Nat.le_trans (ho j) bE, rc, oc, .inl ⟨rfl, rfl⟩⟩
  · rintro m ρ' M' ⟨rfl, r', o', q, rfl, l1, l2, hm, hn, er, eo, br, bo, hb⟩
    have a1 : (r'.map Dt.int)[c]? = some (.int (at0 r' c)) := by rw [List.getElem?_map, at_some (by omega)] <;> rfl
    have a2 : (o'.map Dt.int)[c]? = some (.int (at0 o' c)) := by rw [List.getElem?_map, at_some (by omega)] <;> rfl
    have ll : r'.length = o'.length := l1.trans l2.symm
    refine tx_test (ex_op (ex_op (ex_var rfl (ex_var rfl (rx_ix_tup (atI_at a2) (ex_int (rx_ne_int ⟨_, rfl, fun hw => ?_, fun hw => ?_⟩)))))))
    · have h0 : at0 o' c ≠ 0 := by
        simpa using hw
      cases m with
      | zero => exact absurd hm (by omega)
      | succ m =>
      refine sx_seq (sx_set (ex_op (ex_op (ex_var rfl (ex_var rfl (rx_ix_tup (atI_at a1) (ex_op (ex_var rfl (ex_var rfl (rx_ix_tup (atI_at a2) (rx_Ii (dv h0 bo) ?_)))))))))))
      refine sx_par (ax_cons (ex_var rfl (ax_cons (ex_call (ax_cons (ex_int (ax_cons (ex_var rfl (ax_cons (ex_un (ex_var rfl (ux_neg (ax_cons (ex_var rfl (ax_nil ⟨(1, r', -((at0 r' c).fdiv (at0 o' c)), o'), ⟨rfl, ll, l1 ▸ h50, sm1 (x := 1) (by decide), qv h0 br, er, eo⟩, ?_⟩)))))))))))))))
      rintro d M2 ⟨rfl, rfl⟩
      have hbi : BdI (fun _ => True) C D o' (mixF 1 r' (-((at0 r' c).fdiv (at0 o' c))) o') c := by
        rcases hb with ⟨rfl, rfl⟩ | hb
        · rw [← hCe]
          exact BdI.first hl (fun j _ => hr j) (fun j _ => ho j) rc oc h0
        · exact hb.step ll h0
      refine ax_nil ⟨_, _, rfl, m, ?_, rfl, o', mixF 1 r' (-((at0 r' c).fdiv (at0 o' c))) o', _, rfl, l2, by rw [mix_len ll, l1], ?_, ?_, eo, toEB fun j => hbi.bo j trivial, hbi.rc, hbi.oc, .inr hbi⟩
      · exact Nat.lt_succ_self m
      · rw [step_at ll h0]
        have := (fmod_bd (r := at0 r' c) h0).1
        omega
      · rw [hn]
        show (if at0 o' c = 0 then _ else _) = _
        rw [if_neg h0]
    · have h0 : at0 o' c = 0 := by
        simpa using hw
      refine ⟨rfl, r', o', q, rfl, l1, l2, ?_, er, br, eo⟩
      rw [hn]
      cases m with
      | zero => rfl
      | succ m =>
        show (if at0 o' c = 0 then _ else _) = _
        rw [if_pos h0]
  rintro ρ' M1 ⟨e1, r', o', q, rfl, l1, l2, hn, er, br, eo⟩
  subst e1
  have a1 : (r'.map Dt.int)[c]? = some (.int (at0 r' c)) := by rw [List.getElem?_map, at_some (by omega)] <;> rfl
  have hf : clrF r o c = (if at0 r' c < 0 then mixF (-1) r' 0 r' else r', o') := by
    unfold clrF
    rw [hn]
  rw [hf]
  refine sx_seqc (fun ρ' M' => M' = M1 ∧ ∃ q, ρ' = [some (I1 (if at0 r' c < 0 then mixF (-1) r' 0 r' else r')), some (I1 o'), some (.int (c : Nat)), q]) ?_ ?_
  · refine sx_if (tx_test (ex_op (ex_op (ex_var rfl (ex_var rfl (rx_ix_tup (atI_at a1) (ex_int (rx_I0b ⟨_, rfl, fun hw => ?_, fun hw => ?_⟩))))))))
    · have h0 : at0 r' c < 0 := dT hw
      rw [if_pos h0]
      refine sx_set (ex_call (ax_cons (ex_un (ex_int (ux_neg (ax_cons (ex_var rfl (ax_cons (ex_int (ax_cons (ex_var rfl (ax_nil ⟨(-1, r', 0, r'), ⟨rfl, rfl, l1 ▸ h50, sm1 (x := -1) (by decide), sm1 (x := 0) (by decide), er, er⟩, ?_⟩))))))))))))
      rintro d M2 ⟨rfl, rfl⟩
      exact ⟨rfl, _, rfl⟩
    · have h0 : ¬ at0 r' c < 0 := dF hw
      rw [if_neg h0]
      exact sx_next ⟨rfl, _, rfl⟩
  rintro ρ' M' ⟨rfl, q, rfl⟩
  exact sx_ret (ex_tup (ax_cons (ex_var rfl (ax_cons (ex_var rfl (ax_nil ⟨Nat.le_of_ble_eq_true rfl, ret_pure rfl (Sub.refl _)⟩))))))
end
end Wk
namespace Wk
open PySem L2 Evl
local macro_rules | `(tactic| walk_at "w1") => `(tactic| first
  | ((with_reducible refine' ex_var ?hv ?_); (case hv => rfl))
  | ((with_reducible refine' rx_ix_tup ?hv ?_); (case hv => rfl))
  | ((with_reducible refine' rx_ix_lst ?hv ?_); (case hv => rfl))
  | ((with_reducible refine' gx_tup ?hv ?_); (case hv => rfl))
  | ((with_reducible refine' rx_ix_cell ?hm ?hv ?_); (case hm => first | assumption | exact put_same); (case hv => rfl))
  | ((with_reducible refine' cx_len_cell ?hm ?_); (case hm => first | assumption | exact put_same))
  | ((with_reducible refine' rx_Ii ?hc ?_); (case hc => first | assumption | exact ⟨by decide, by decide +kernel⟩ | (show (0 : Int) < _; omega) | (show (0 : Int) < _; decide)))
  | ((with_reducible refine' rx_mul_int ?hc ?_); (case hc => first | assumption | exact cmul_l (by decide) (by decide) | exact cmul_r (by decide) (by decide)))
  | with_reducible refine ex_int ?_
  | with_reducible refine ex_str ?_
  | with_reducible refine ex_bl ?_
  | with_reducible refine ex_non ?_
  | with_reducible refine ex_raw ?_
  | with_reducible refine ex_op ?_
  | with_reducible refine ex_un ?_
  | with_reducible refine ex_cb ?_
  | with_reducible refine ex_tup ?_
  | with_reducible refine ex_sl ?_
  | with_reducible refine ox_none ?_
  | with_reducible refine ox_some ?_
  | with_reducible refine ax_nil ?_
  | with_reducible refine ax_cons ?_
  | with_reducible refine ex_if ?_
  | with_reducible refine ex_andV ?_
  | with_reducible refine ex_orV ?_
  | with_reducible refine ex_notV ?_
  | with_reducible refine ex_m0 ?_
  | with_reducible refine ex_m1 ?_
  | with_reducible refine tx_test ?_
  | with_reducible refine tx_B ?_
  | with_reducible refine tx_and ?_
  | with_reducible refine tx_or ?_
  | with_reducible refine tx_not ?_
  | with_reducible refine tx_yes ?_
  | with_reducible refine sx_seq ?_
  | with_reducible refine sx_set ?_
  | with_reducible refine sx_ret ?_
  | with_reducible refine sx_drop ?_
  | with_reducible refine sx_next ?_
  | with_reducible refine sx_if ?_
  | with_reducible refine sx_retN ?_
  | with_reducible refine sx_asg ?_
  | with_reducible refine sx_par ?_
  | with_reducible refine gx_name ?_
  | with_reducible refine gxs_cons ?_
  | with_reducible refine gxs_nil ?_
  | with_reducible refine rx_add_int ?_
  | with_reducible refine rx_I0i ?_
  | with_reducible refine rx_I0b ?_
  | with_reducible refine rx_eq_int ?_
  | with_reducible refine rx_ne_int ?_
  | with_reducible refine rx_eq_str ?_
  | with_reducible refine rx_ne_str ?_
  | with_reducible refine rx_eq_bl ?_
  | with_reducible refine rx_ne_bl ?_
  | with_reducible refine lx_tup ?_
  | with_reducible refine lx_lst ?_
  | with_reducible refine cx_len_tup ?_
  | with_reducible refine cx_len_lst ?_
  | with_reducible refine cx_len_frl ?_
  | with_reducible refine cx_max2 ?_
  | with_reducible refine ux_neg ?_
  | with_reducible refine cx_list_lst ?_
  | with_reducible refine cx_tuple_lst ?_
  | with_reducible refine cx_tuple_tup ?_
  | with_reducible refine mx_isdigit ?_
  | with_reducible refine mx_startswith ?_
  | with_reducible refine ix_any ?_
  | with_reducible refine And.intro (Nat.le_of_ble_eq_true rfl) ?_
  | refine Exists.intro _ (And.intro rfl ?_))
local macro_rules | `(tactic| walk_at "w") => `(tactic| repeat (walk_at "w1"))
section
variable {P : Program} {w : World} {K : PySem.W.Frag} {mg : Str → Option Value} {base : Heap} {C WE BP BT NC BJ S BW TM TF BS UN NP UF DP DF J UR SC JC CG RB RS FJ f g : Addr} {fd : FuncData}
theorem ok_basis {f : Addr} {fd : FuncData} (F : Fun K "basis" "basis" s_basis f fd) (T : Tx K mg C) (c_mixed : Cal P w K mg base 1 "mixed" (spMixed K)) (c_cleared : Cal P w K mg base 2 "cleared" (spCleared K)) : FnOk P w K mg base CX0 3 f fd ["vectors"] (spBasis K) := by
  refine F.ok sc_basis (spD_len (n := 1) (fun x ds M h => by rw [h.1] <;> rfl)) (fun cdv A outer s H vs Q E hr h => ⟨_, (pss_cons (ps_set (i := 1) sc_basis.nd rfl (Or.inl rfl) (pe_callB call_lenA (by rfl) T.n_len (by decide +kernel) (pa_cons (pv 0) pa_nil))) (pss_cons (ps_set (i := 2) sc_basis.nd rfl (Or.inl rfl) (pe_op op_repU (pe_tup (pa_cons pe_int pa_nil)) (pe_op op_addA (pv 1) pe_int))) (pss_cons (ps_set (i := 3) sc_basis.nd rfl (Or.inl rfl) (pv 2)) (pss_cons (ps_for PassesOwn.never rfl (pi_enumA rfl T.n_enumerate (pa_cons (pv 0) pa_nil)) (pg_tup (by rfl) (pgs_cons (pg_name (i := 4) sc_basis.nd rfl (Or.inr rfl)) (pgs_cons (pg_name (i := 5) sc_basis.nd rfl (Or.inl rfl)) pgs_nil))) (pss_cons (ps_setLc (i := 6) (own := [("at", 9)]) rfl sc_basis.nd rfl rfl (sw_true rfl rfl rfl (by decide +kernel)) (pi_range1 rfl T.n_range (pa_cons (pv 1) pa_nil)) (blkOk_by (own := [("at", 9)]) (N := ["vectors", "count", "first", "second", "index", "vector", "unit", "rest", "_", "at"]) (sc := defScope s_basis) (by decide +kernel)) (fun _ _ _ _ _ => (pg_name (i := 9) sc_basis.nd rfl (Or.inl rfl))) (fun _ _ _ _ _ => pts_nil) (fun _ _ _ _ _ => (pe_ifExp (pt_cmpR (op_eqK K (by rfl) hr.units) (pv 9) (pv 4) (nomark _)) pe_int pe_int))) (pss_cons (ps_asg (pe_c c_cleared hr (by decide) rfl (pa_cons (pv 2) (pa_cons (pe_tupSS (pv 5) (pv 6)) (pa_cons pe_int pa_nil)))) (pg_tup (by rfl) (pgs_cons (pg_name (i := 2) sc_basis.nd rfl (Or.inl rfl)) (pgs_cons (pg_name (i := 7) sc_basis.nd rfl (Or.inl rfl)) pgs_nil)))) (pss_cons (ps_asg (pe_c c_cleared hr (by decide) rfl (pa_cons (pv 3) (pa_cons (pv 7) (pa_cons pe_int pa_nil)))) (pg_tup (by rfl) (pgs_cons (pg_name (i := 3) sc_basis.nd rfl (Or.inl rfl)) (pgs_cons (pg_name (i := 8) sc_basis.nd rfl (Or.inl rfl)) pgs_nil)))) (pss_one (ps_if (pt_cmpR (op_neA hr.units) (pe_ix ix_seq (pv 3) pe_int (fun _ _ => rfl)) pe_int (nomark _)) (pss_one (ps_set (i := 2) sc_basis.nd rfl (Or.inl rfl) (pe_c c_mixed hr (by decide) rfl (pa_cons pe_int (pa_cons (pv 2) (pa_cons (pe_un un_neg (pe_op op_fdivN (pe_ix ix_seq (pv 2) pe_int (fun _ _ => rfl)) (pe_ix ix_seq (pv 3) pe_int (fun _ _ => rfl)))) (pa_cons (pv 3) pa_nil))))))) pss_nil)))))) (pss_one (ps_ret (pe_tup (pa_cons (pv 2) (pa_cons (pv 3) pa_nil))))))))), enter h ?_⟩)
  try dsimp only [cxOf, Cx.nox, Cx.wish]
  rintro ⟨b, vs, V⟩ ds M ⟨rfl, h8, v1, v50, hv⟩
  dsimp only at *
  have hs : WSrc M (Vtl b vs) (vs.map P2) (fun _ => True) := by
    cases b with
    | true => exact .inl ⟨.inr (.inr rfl), rfl⟩
    | false => exact .inl ⟨.inl rfl, rfl⟩
  have cl : ∀ {Φ : Dt → Mm → Prop}, Φ (.int (vs.length : Nat)) M → CX K (rLenA K) [Vtl b vs] M Φ := fun h => by
    cases b with
    | true => exact cx_len_tup (by rw [List.length_map]; exact h)
    | false => exact cx_len_lst (by rw [List.length_map]; exact h)
  refine sx_seq (sx_set (ex_cb (ax_cons (ex_var rfl (ax_nil (cl ?_))))))
  refine sx_seq (sx_set (ex_op (ex_tup (ax_cons (ex_int (ax_nil ⟨Nat.le_of_ble_eq_true rfl, ex_op (ex_var rfl (ex_int (rx_add_int (rx_repU (by omega) (by omega) (Nat.le_of_ble_eq_true rfl) ?_))))⟩))))))
  rw [show ((vs.length : Int) + 2).toNat = vs.length + 2 by omega, zero_flat]
  refine sx_seq (sx_set (ex_var rfl ?_))
  refine sx_seqc (fun ρ' M' => M' = M ∧ ∃ x0 x1 x4 x5 x6 x7 x8 x9, ρ' = [x0, x1, some (I1 (basF vs).1), some (I1 (basF vs).2), x4, x5, x6, x7, x8, x9]) (sx_for (ix_enum (ax_cons (ex_var rfl (ax_nil ⟨_, _, fun _ => True, rfl, hs, fun i ρ' M' => M' = M ∧ ∃ p x4 x5 x6 x7 x8 x9, ρ' = [some (Vtl b vs), some (.int (vs.length : Nat)), some (I1 p.1), some (I1 p.2), x4, x5, x6, x7, x8, x9] ∧ BInv vs V i p ∧ basFrom vs.length (vs.drop i) i p = basF vs,
    ⟨rfl, (zeroF vs.length, zeroF vs.length), _, _, _, _, _, _, rfl, BInv.start, rfl⟩, fun _ _ _ _ _ => trivial, ?_, ?_⟩))))) ?_
  · rintro i d ρ' M1 hi ⟨e1, ⟨f, s⟩, x4, x5, x6, x7, x8, x9, rfl, hB, hF⟩
    subst e1
    dsimp only at *
    obtain ⟨x, hx, rfl⟩ := enumD_inv hi
    rw [List.getElem?_map] at hx
    obtain ⟨v, hvi, rfl⟩ := Option.map_eq_some_iff.mp hx
    have hil := (List.getElem?_eq_some_iff.mp hvi).1
    have n50 : vs.length + 2 ≤ 50 := by omega
    have q0 : 0 < vs.length + 2 := by omega
    have q1 : 1 < vs.length + 2 := by omega
    obtain ⟨n1, n2, n3, n4, n5, n6⟩ := bas_num (k := i) v50 (by omega)
    have hvm := hv v (List.mem_of_getElem? hvi)
    have hN := hB.next hvi v1 hvm.1 hvm.2
    have hF2 : basFrom vs.length (vs.drop (i + 1)) (i + 1) (basStep vs.length (f, s) i v) = basF vs := by
      rw [← hF, List.drop_eq_getElem_cons hil, (List.getElem?_eq_some_iff.mp hvi).2]
      rfl
    have lf := hB.cf.len
    have ls := hB.cs.len
    have cr := cons_unit hvi
    have lr := cr.len
    dsimp only at lf ls
    have l1 : f.length = (v.1 :: v.2 :: unitF vs.length i).length := lf.trans lr.symm
    have rb := fun j => row_at (n := vs.length) (i := i) v1 hvm.1 hvm.2 j
    refine gx_tup rfl (gxs_cons (gx_name (gxs_cons (gx_name (gxs_nil ?_)))))
    refine sx_seq (sx_set (ex_lcm (by exact gw_name (by decide)) (ix_rng1 (ax_cons (ex_var rfl (ax_nil ⟨(vs.length : Nat), rfl, by omega, by omega, ?_⟩))))))
    rw [Int.toNat_natCast]
    refine ⟨by rw [rng_len]; exact Nat.lt_of_le_of_lt h8 (by decide), trivial, (unitF vs.length i).map Dt.int, by rw [rng_len, List.length_map]; unfold unitF; rw [List.length_map, List.length_range], ?_, ?_⟩
    · intro j d z hj hz
      obtain ⟨hj2, rfl⟩ := rng_get hj
      unfold unitF at hz
      rw [List.getElem?_map, List.getElem?_map, List.getElem?_range hj2] at hz
      cases hz
      refine gx_name (ex_if (tx_test (ex_op (ex_var rfl (ex_var rfl (rx_eq_int ⟨_, rfl, fun hw => ?_, fun hw => ?_⟩))))))
      · have e : j = i := by
          have := dT hw
          omega
        exact ex_int ⟨by show Dt.int 1 = Dt.int (if j = i then 1 else 0); rw [if_pos e], rfl⟩
      · have e : ¬ j = i := by
          have := dF hw
          omega
        exact ex_int ⟨by show Dt.int 0 = Dt.int (if j = i then 1 else 0); rw [if_neg e], rfl⟩
    refine sx_seq (sx_asg (ex_call (ax_cons (ex_var rfl (ax_cons (ex_tupSS (ex_var rfl ⟨_, .inl rfl, ex_var rfl ⟨_, .inr rfl, ?_, ?_⟩⟩)))))))
    · show ([Dt.int v.1, Dt.int v.2] ++ (unitF vs.length i).map Dt.int).length ≤ sizeLine
      unfold unitF
      rw [List.length_append, List.length_map, List.length_map, List.length_range]
      exact Nat.le_trans (Nat.add_le_add_left h8 _) (Nat.le_of_ble_eq_true rfl)
    refine ax_cons (ex_int (ax_nil ⟨(f, v.1 :: v.2 :: unitF vs.length i, 0, eB V i, V), ⟨rfl, l1, by show f.length ≤ 50; rw [lf]; exact n50, by show 0 < f.length; rw [lf]; exact q0, hB.ef, fun j => Nat.le_trans (rb j) (V_eB V i), hB.b0, rb 0, n1, n3⟩, ?_⟩))
    rintro d M2 ⟨rfl, rfl⟩
    refine gx_tup rfl (gxs_cons (gx_name (gxs_cons (gx_name (gxs_nil ?_)))))
    have ba := clrF_bd (J := fun _ => True) (c := 0) (E := eB V i) (D := V) l1 (fun j _ => hB.ef j) (fun j _ => Nat.le_trans (rb j) (V_eB V i)) hB.b0 (rb 0)
    have ba1 := clrF_bd (J := fun j => j = 1) (c := 0) (E := mB V i) (D := V) l1 (fun j hj => by rw [hj]; exact hB.bf) (fun j _ => Nat.le_trans (rb j) (V_mB V i)) hB.b0 (rb 0)
    have m2 := (ba1.1 1 rfl).2
    have m1 := (ba1.1 1 rfl).1
    rw [← mB_succ] at m1 m2
    obtain ⟨la, lb⟩ := clrF_len (c := 0) l1
    have l2 : s.length = (clrF f (v.1 :: v.2 :: unitF vs.length i) 0).2.length := by rw [lb, lf, ls]
    have bb := clrF_bd (J := fun _ => True) (c := 1) (E := eB V i * (V + 3) * (V + 1)) (D := mB V (i + 1)) l2 (fun j _ => Nat.le_trans (hB.es j) (le_mul3 _ _ _)) (fun j _ => (ba.1 j trivial).2) (Nat.le_trans hB.bs (mB_le V i)) m2
    refine sx_seq (sx_asg (ex_call (ax_cons (ex_var rfl (ax_cons (ex_var rfl (ax_cons (ex_int (ax_nil ⟨(s, (clrF f (v.1 :: v.2 :: unitF vs.length i) 0).2, 1, eB V i * (V + 3) * (V + 1), mB V (i + 1)), ⟨rfl, l2, by show s.length ≤ 50; rw [ls]; exact n50, by show 1 < s.length; rw [ls]; exact q1, fun j => Nat.le_trans (hB.es j) (le_mul3 _ _ _), fun j => (ba.1 j trivial).2, Nat.le_trans hB.bs (mB_le V i), m2, n2, n4⟩, ?_⟩)))))))))
    rintro d M2 ⟨rfl, rfl⟩
    refine gx_tup rfl (gxs_cons (gx_name (gxs_cons (gx_name (gxs_nil ?_)))))
    obtain ⟨lc, ld⟩ := clrF_len (c := 1) l2
    have bsd : basStep vs.length (f, s) i v = (if at0 (clrF s (clrF f (v.1 :: v.2 :: unitF vs.length i) 0).2 1).1 1 ≠ 0 then mixF 1 (clrF f (v.1 :: v.2 :: unitF vs.length i) 0).1 (-((at0 (clrF f (v.1 :: v.2 :: unitF vs.length i) 0).1 1).fdiv (at0 (clrF s (clrF f (v.1 :: v.2 :: unitF vs.length i) 0).2 1).1 1))) (clrF s (clrF f (v.1 :: v.2 :: unitF vs.length i) 0).2 1).1 else (clrF f (v.1 :: v.2 :: unitF vs.length i) 0).1, (clrF s (clrF f (v.1 :: v.2 :: unitF vs.length i) 0).2 1).1) := rfl
    generalize basStep vs.length (f, s) i v = st at *
    have ebA := fun j => (ba.1 j trivial).1
    have ebB := fun j => (bb.1 j trivial).1
    have bB := bb.2
    have lA : (clrF f (v.1 :: v.2 :: unitF vs.length i) 0).1.length = vs.length + 2 := la.trans lf
    have lB : (clrF s (clrF f (v.1 :: v.2 :: unitF vs.length i) 0).2 1).1.length = vs.length + 2 := lc.trans ls
    clear ba ba1 bb l1 l2 rb lr cr la lb lc ld m2 hB hF
    generalize (clrF s (clrF f (v.1 :: v.2 :: unitF vs.length i) 0).2 1).2 = T at *
    generalize (clrF s (clrF f (v.1 :: v.2 :: unitF vs.length i) 0).2 1).1 = B at *
    generalize (clrF f (v.1 :: v.2 :: unitF vs.length i) 0).2 = R at *
    generalize (clrF f (v.1 :: v.2 :: unitF vs.length i) 0).1 = A at *
    have a1 : (A.map Dt.int)[1]? = some (.int (at0 A 1)) := by rw [List.getElem?_map, at_some (by rw [lA]; exact q1)] <;> rfl
    have b1 : (B.map Dt.int)[1]? = some (.int (at0 B 1)) := by rw [List.getElem?_map, at_some (by rw [lB]; exact q1)] <;> rfl
    refine sx_if (tx_test (ex_op (ex_op (ex_var rfl (ex_int (rx_ix_tup (atI_at (j := 1) b1) (ex_int (rx_ne_int ⟨_, rfl, fun hw => ?_, fun hw => ?_⟩))))))))
    · have h0 : at0 B 1 ≠ 0 := by simpa using hw
      rw [if_pos h0] at bsd
      refine sx_set (ex_call (ax_cons (ex_int (ax_cons (ex_var rfl (ax_cons (ex_un (ex_op (ex_op (ex_var rfl (ex_int (rx_ix_tup (atI_at (j := 1) a1) (ex_op (ex_var rfl (ex_int (rx_ix_tup (atI_at (j := 1) b1) (rx_Ii (cdivn (n := 8000) h0 (Nat.lt_of_le_of_lt bB n2) (by decide)) (ux_neg (ax_cons (ex_var rfl (ax_nil ⟨(1, A, -((at0 A 1).fdiv (at0 B 1)), B), ⟨rfl, lA.trans lB.symm, by show A.length ≤ 50; rw [lA]; exact n50, sm1 (x := 1) (by decide), ?_, fun j => Nat.lt_of_le_of_lt (ebA j) n3, fun j => Nat.lt_of_le_of_lt (ebB j) n4⟩, ?_⟩)))))))))))))))))))))
      · rw [Int.natAbs_neg]
        exact Nat.lt_of_le_of_lt (Nat.le_trans (fdiv_le h0) (Nat.succ_le_succ m1)) n6
      · rintro d M2 ⟨rfl, rfl⟩
        subst bsd
        exact ⟨rfl, (mixF 1 A (-((at0 A 1).fdiv (at0 B 1))) B, B), _, _, _, _, _, _, rfl, hN, hF2⟩
    · have h0 : ¬ at0 B 1 ≠ 0 := by simpa using hw
      rw [if_neg h0] at bsd
      subst bsd
      exact sx_next ⟨rfl, (A, B), _, _, _, _, _, _, rfl, hN, hF2⟩
  · rintro ρ' M1 ⟨e1, p, x4, x5, x6, x7, x8, x9, rfl, hB, hF⟩
    rw [enumD_len, List.length_map, List.drop_length] at hF
    have hF' : p = basF vs := hF
    subst hF'
    exact ⟨e1, _, _, _, _, _, _, _, _, rfl⟩
  rintro ρ' M1 ⟨rfl, x0, x1, x4, x5, x6, x7, x8, x9, rfl⟩
  exact sx_ret (ex_tup (ax_cons (ex_var rfl (ax_cons (ex_var rfl (ax_nil ⟨Nat.le_of_ble_eq_true rfl, ret_pure rfl (Sub.refl _)⟩))))))
end
end Wk
namespace Wk
open PySem L2 Evl
local macro_rules | `(tactic| walk_at "w1") => `(tactic| first
  | ((with_reducible refine' ex_var ?hv ?_); (case hv => rfl))
  | ((with_reducible refine' rx_ix_tup ?hv ?_); (case hv => rfl))
  | ((with_reducible refine' rx_ix_lst ?hv ?_); (case hv => rfl))
  | ((with_reducible refine' gx_tup ?hv ?_); (case hv => rfl))
  | ((with_reducible refine' rx_ix_cell ?hm ?hv ?_); (case hm => first | assumption | exact put_same); (case hv => rfl))
  | ((with_reducible refine' cx_len_cell ?hm ?_); (case hm => first | assumption | exact put_same))
  | ((with_reducible refine' rx_Ii ?hc ?_); (case hc => first | assumption | exact ⟨by decide, by decide +kernel⟩ | (show (0 : Int) < _; omega) | (show (0 : Int) < _; decide)))
  | ((with_reducible refine' rx_mul_int ?hc ?_); (case hc => first | assumption | exact cmul_l (by decide) (by decide) | exact cmul_r (by decide) (by decide)))
  | with_reducible refine ex_int ?_
  | with_reducible refine ex_str ?_
  | with_reducible refine ex_bl ?_
  | with_reducible refine ex_non ?_
  | with_reducible refine ex_raw ?_
  | with_reducible refine ex_op ?_
  | with_reducible refine ex_un ?_
  | with_reducible refine ex_cb ?_
  | with_reducible refine ex_tup ?_
  | with_reducible refine ex_sl ?_
  | with_reducible refine ox_none ?_
  | with_reducible refine ox_some ?_
  | with_reducible refine ax_nil ?_
  | with_reducible refine ax_cons ?_
  | with_reducible refine ex_if ?_
  | with_reducible refine ex_andV ?_
  | with_reducible refine ex_orV ?_
  | with_reducible refine ex_notV ?_
  | with_reducible refine ex_m0 ?_
  | with_reducible refine ex_m1 ?_
  | with_reducible refine tx_test ?_
  | with_reducible refine tx_B ?_
  | with_reducible refine tx_and ?_
  | with_reducible refine tx_or ?_
  | with_reducible refine tx_not ?_
  | with_reducible refine tx_yes ?_
  | with_reducible refine sx_seq ?_
  | with_reducible refine sx_set ?_
  | with_reducible refine sx_ret ?_
  | with_reducible refine sx_drop ?_
  | with_reducible refine sx_next ?_
  | with_reducible refine sx_if ?_
  | with_reducible refine sx_retN ?_
  | with_reducible refine sx_asg ?_
  | with_reducible refine sx_par ?_
  | with_reducible refine gx_name ?_
  | with_reducible refine gxs_cons ?_
  | with_reducible refine gxs_nil ?_
  | with_reducible refine rx_add_int ?_
  | with_reducible refine rx_I0i ?_
  | with_reducible refine rx_I0b ?_
  | with_reducible refine rx_eq_int ?_
  | with_reducible refine rx_ne_int ?_
  | with_reducible refine rx_eq_str ?_
  | with_reducible refine rx_ne_str ?_
  | with_reducible refine rx_eq_bl ?_
  | with_reducible refine rx_ne_bl ?_
  | with_reducible refine lx_tup ?_
  | with_reducible refine lx_lst ?_
  | with_reducible refine cx_len_tup ?_
  | with_reducible refine cx_len_lst ?_
  | with_reducible refine cx_len_frl ?_
  | with_reducible refine cx_max2 ?_
  | with_reducible refine ux_neg ?_
  | with_reducible refine cx_list_lst ?_
  | with_reducible refine cx_tuple_lst ?_
  | with_reducible refine cx_tuple_tup ?_
  | with_reducible refine mx_isdigit ?_
  | with_reducible refine mx_startswith ?_
  | with_reducible refine ix_any ?_
  | with_reducible refine And.intro (Nat.le_of_ble_eq_true rfl) ?_
  | refine Exists.intro _ (And.intro rfl ?_))
local macro_rules | `(tactic| walk_at "w") => `(tactic| repeat (walk_at "w1"))
section
variable {P : Program} {w : World} {K : PySem.W.Frag} {mg : Str → Option Value} {base : Heap} {C WE BP BT NC BJ S BW TM TF BS UN NP UF DP DF J UR SC JC CG RB RS FJ f g : Addr} {fd : FuncData}
theorem ok_Congruence_init {f : Addr} {fd : FuncData} (F : Fun K "__init__" "Congruence.__init__" s_Congruence_init f fd) (T : Tx K mg C) (TR : TxR K mg JC SC CG) : FnOk P w K mg base CX0 1 f fd ["self", "a", "b", "modulus"] (spIniC K CG) := by
  refine F.ok sc_Congruence_init (spD_len (n := 4) (fun x ds M h => by rw [h.1] <;> rfl)) (fun cdv A outer s H vs Q E hr h => ⟨_, (pss_cons (ps_fld (pv 0) (pv 1) rfl) (pss_cons (ps_fld (pv 0) (pv 2) rfl) (pss_one (ps_fld (pv 0) (pv 3) rfl)))), enter h ?_⟩)
  try dsimp only [cxOf, Cx.nox, Cx.wish]
  rintro ⟨a, x, y, z⟩ ds M ⟨rfl, hm⟩
  dsimp only at *
  refine sx_seq (sx_fld ?_)
  walk_at "w"
  refine ⟨a, CG, [], rfl, hm, TR.clC, TR.nA, by decide, ?_⟩
  refine sx_seq (sx_fld ?_)
  walk_at "w"
  refine ⟨a, CG, _, rfl, put_same, TR.clC, TR.nB, (show (1 : Nat) < 1000 by decide), ?_⟩
  refine sx_fld ?_
  walk_at "w"
  refine ⟨a, CG, _, rfl, put_same, TR.clC, TR.nM, (show (2 : Nat) < 1000 by decide), _, Sub.refl _, rfl, ?_⟩
  rw [put_put, put_put] <;> rfl
end
end Wk
namespace Wk
open PySem L2 Evl
local macro_rules | `(tactic| walk_at "w1") => `(tactic| first
  | ((with_reducible refine' ex_var ?hv ?_); (case hv => rfl))
  | ((with_reducible refine' rx_ix_tup ?hv ?_); (case hv => rfl))
  | ((with_reducible refine' rx_ix_lst ?hv ?_); (case hv => rfl))
  | ((with_reducible refine' gx_tup ?hv ?_); (case hv => rfl))
  | ((with_reducible refine' rx_ix_cell ?hm ?hv ?_); (case hm => first | assumption | exact put_same); (case hv => rfl))
  | ((with_reducible refine' cx_len_cell ?hm ?_); (case hm => first | assumption | exact put_same))
  | ((with_reducible refine' rx_Ii ?hc ?_); (case hc => first | assumption | exact ⟨by decide, by decide +kernel⟩ | (show (0 : Int) < _; omega) | (show (0 : Int) < _; decide)))
  | ((with_reducible refine' rx_mul_int ?hc ?_); (case hc => first | assumption | exact cmul_l (by decide) (by decide) | exact cmul_r (by decide) (by decide)))
  | with_reducible refine ex_int ?_
  | with_reducible refine ex_str ?_
  | with_reducible refine ex_bl ?_
  | with_reducible refine ex_non ?_
  | with_reducible refine ex_raw ?_
  | with_reducible refine ex_op ?_
  | with_reducible refine ex_un ?_
  | with_reducible refine ex_cb ?_
  | with_reducible refine ex_tup ?_
  | with_reducible refine ex_sl ?_
  | with_reducible refine ox_none ?_
  | with_reducible refine ox_some ?_
  | with_reducible refine ax_nil ?_
  | with_reducible refine ax_cons ?_
  | with_reducible refine ex_if ?_
  | with_reducible refine ex_andV ?_
  | with_reducible refine ex_orV ?_
  | with_reducible refine ex_notV ?_
  | with_reducible refine ex_m0 ?_
  | with_reducible refine ex_m1 ?_
  | with_reducible refine tx_test ?_
  | with_reducible refine tx_B ?_
  | with_reducible refine tx_and ?_
  | with_reducible refine tx_or ?_
  | with_reducible refine tx_not ?_
  | with_reducible refine tx_yes ?_
  | with_reducible refine sx_seq ?_
  | with_reducible refine sx_set ?_
  | with_reducible refine sx_ret ?_
  | with_reducible refine sx_drop ?_
  | with_reducible refine sx_next ?_
  | with_reducible refine sx_if ?_
  | with_reducible refine sx_retN ?_
  | with_reducible refine sx_asg ?_
  | with_reducible refine sx_par ?_
  | with_reducible refine gx_name ?_
  | with_reducible refine gxs_cons ?_
  | with_reducible refine gxs_nil ?_
  | with_reducible refine rx_add_int ?_
  | with_reducible refine rx_I0i ?_
  | with_reducible refine rx_I0b ?_
  | with_reducible refine rx_eq_int ?_
  | with_reducible refine rx_ne_int ?_
  | with_reducible refine rx_eq_str ?_
  | with_reducible refine rx_ne_str ?_
  | with_reducible refine rx_eq_bl ?_
  | with_reducible refine rx_ne_bl ?_
  | with_reducible refine lx_tup ?_
  | with_reducible refine lx_lst ?_
  | with_reducible refine cx_len_tup ?_
  | with_reducible refine cx_len_lst ?_
  | with_reducible refine cx_len_frl ?_
  | with_reducible refine cx_max2 ?_
  | with_reducible refine ux_neg ?_
  | with_reducible refine cx_list_lst ?_
  | with_reducible refine cx_tuple_lst ?_
  | with_reducible refine cx_tuple_tup ?_
  | with_reducible refine mx_isdigit ?_
  | with_reducible refine mx_startswith ?_
  | with_reducible refine ix_any ?_
  | with_reducible refine And.intro (Nat.le_of_ble_eq_true rfl) ?_
  | refine Exists.intro _ (And.intro rfl ?_))
local macro_rules | `(tactic| walk_at "w") => `(tactic| repeat (walk_at "w1"))
section
variable {P : Program} {w : World} {K : PySem.W.Frag} {mg : Str → Option Value} {base : Heap} {C WE BP BT NC BJ S BW TM TF BS UN NP UF DP DF J UR SC JC CG RB RS FJ f g : Addr} {fd : FuncData}
theorem ok_congruences {f : Addr} {fd : FuncData} (F : Fun K "congruences" "congruences" s_congruences f fd) (T : Tx K mg C) (TR : TxR K mg JC SC CG) (c_sticks : PrpR P w K mg base 2 C "sticks" (spSticks K C)) (c_differences : Cal P w K mg base 2 "differences" (spDiff K)) (c_basis : Cal P w K mg base 3 "basis" (spBasis K)) (c_iniC : MkR P w K mg base 1 CG "Congruence" (spIniC K CG)) : FnOk P w K mg base CX0 5 f fd ["polygon"] (spCongs K C CG) := by
  refine F.ok sc_congruences (spD_len (n := 1) (fun x ds M h => by rw [h.1] <;> rfl)) (fun cdv A outer s H vs Q E hr h => ⟨_, (pss_cons (ps_asg (pe_c c_basis hr (by decide) rfl (pa_cons (pe_c c_differences hr (by decide) rfl (pa_cons (pe_pR c_sticks hr (by decide) (pv 0)) pa_nil)) pa_nil)) (pg_tup (by rfl) (pgs_cons (pg_name (i := 1) sc_congruences.nd rfl (Or.inl rfl)) (pgs_cons (pg_name (i := 2) sc_congruences.nd rfl (Or.inl rfl)) pgs_nil)))) (pss_cons (ps_set (i := 3) sc_congruences.nd rfl (Or.inl rfl) (pe_callB (call_max2 rfl) (by rfl) T.n_max (by decide +kernel) (pa_cons (pe_ix ix_seq (pv 1) pe_int (fun _ _ => rfl)) (pa_cons pe_int pa_nil)))) (pss_one (ps_ret (pe_tup (pa_cons (pe_mkA c_iniC hr (by decide) rfl (pa_cons pe_int (pa_cons pe_int (pa_cons (pe_ix ix_seq (pv 1) pe_int (fun _ _ => rfl)) pa_nil)))) (pa_cons (pe_mkA c_iniC hr (by decide) rfl (pa_cons (pe_un un_neg (pe_ix ix_seq (pv 1) pe_int (fun _ _ => rfl))) (pa_cons (pv 3) (pa_cons (pe_op op_mulA (pv 3) (pe_ix ix_seq (pv 2) pe_int (fun _ _ => rfl))) pa_nil)))) pa_nil))))))), enter h ?_⟩)
  try dsimp only [cxOf, Cx.nox, Cx.wish]
  rintro ps ds M ⟨rfl, hp⟩
  have hl1 : ps.length ≤ 1000 := Nat.le_trans hp.l8 (by decide)
  refine sx_seq (sx_asg (ex_callP (ax_cons (ex_callP (ax_cons (ex_sticks hl1 (ex_var rfl ⟨rfl, ax_nil ?_⟩)))))))
  refine ⟨sticksP ps, rfl, ⟨by rw [sticksP_length]; exact Nat.le_trans (by decide) hp.l3, by rw [sticksP_length]; exact hp.l8⟩, ?_⟩
  refine ax_nil ⟨(false, diffP (sticksP ps), 2 ^ 50), rfl, ⟨Nat.le_succ_of_le hp.len, (Nat.one_le_two_pow : 1 ≤ 2 ^ 50), Nat.le_refl _, hp.diff⟩, ?_⟩
  refine gx_tup rfl (gxs_cons (gx_name (gxs_cons (gx_name (gxs_nil ?_)))))
  dsimp only
  have B := hp.binv
  refine sx_seq (sx_set (ex_cb (ax_cons (ex_op (ex_var rfl (ex_int (rx_ix_tup (rows_at B.cf).1 (ax_cons (ex_int (ax_nil (cx_max2 ?_)))))))))))
  refine sx_ret (ex_tup (ax_cons (ex_frzI (ex_makeA (ax_cons (ex_int (ax_cons (ex_int (ax_cons (ex_op (ex_var rfl (ex_int (rx_ix_tup (rows_at B.cf).1 (ax_nil fun x hx => ⟨(x, .int 1, .int 0, .int (at0 (basF (diffP (sticksP ps))).1 0)), ⟨rfl, put_same⟩, ?_⟩))))))))))))))
  rintro d M5 ⟨rfl, rfl⟩
  refine ⟨rfl, x, CG, _, rfl, put_same, ?_⟩
  rw [put_put]
  have s1 : Sub M (del (put M x (.ins CG [("a", .int 1), ("b", .int 0), ("modulus", .int (at0 (basF (diffP (sticksP ps))).1 0))])) x) := del_put_sub (Sub.refl M) hx
  dsimp only at s1 ⊢
  generalize del (put M x _) x = M1 at s1 ⊢
  have n1 := hp.sc.1
  have n2 := hp.num.2.2
  have w1 : (2 : Nat) ^ 50 < 2 ^ 200000 := Nat.pow_lt_pow_right (by decide) (by decide)
  have w2 : (2 : Nat) ^ 900 < 2 ^ 200000 := Nat.pow_lt_pow_right (by decide) (by decide)
  refine ax_cons (ex_frzI (ex_makeA (ax_cons (ex_un (ex_op (ex_var rfl (ex_int (rx_ix_tup (rows_at B.cf).2 (ux_neg ?_)))))))))
  refine ax_cons (ex_var rfl (ax_cons (ex_op (ex_var rfl (ex_op (ex_var rfl (ex_int (rx_ix_tup (rows_at B.cs).2 (rx_mul_int (cmul_e (Nat.lt_of_le_of_lt n1 w1) (Nat.lt_of_le_of_lt n2 w2)) ?_)))))))))
  refine ax_nil fun x2 hx2 => ⟨(x2, .int _, .int _, .int _), ⟨rfl, put_same⟩, ?_⟩
  rintro d M5 ⟨rfl, rfl⟩
  refine ⟨rfl, x2, CG, _, rfl, put_same, ax_nil ⟨Nat.le_of_ble_eq_true rfl, ?_⟩⟩
  rw [put_put]
  have hx3 : M x2 = none := by
    cases e : M x2 with
    | none => rfl
    | some c =>
      rw [s1 _ _ e] at hx2
      cases hx2
  exact ret_pure rfl (del_put_sub s1 hx3)
end
end Wk
namespace Wk
open PySem L2 Evl
local macro_rules | `(tactic| walk_at "w1") => `(tactic| first
  | ((with_reducible refine' ex_var ?hv ?_); (case hv => rfl))
  | ((with_reducible refine' rx_ix_tup ?hv ?_); (case hv => rfl))
  | ((with_reducible refine' rx_ix_lst ?hv ?_); (case hv => rfl))
  | ((with_reducible refine' gx_tup ?hv ?_); (case hv => rfl))
  | ((with_reducible refine' rx_ix_cell ?hm ?hv ?_); (case hm => first | assumption | exact put_same); (case hv => rfl))
  | ((with_reducible refine' cx_len_cell ?hm ?_); (case hm => first | assumption | exact put_same))
  | ((with_reducible refine' rx_Ii ?hc ?_); (case hc => first | assumption | exact ⟨by decide, by decide +kernel⟩ | (show (0 : Int) < _; omega) | (show (0 : Int) < _; decide)))
  | ((with_reducible refine' rx_mul_int ?hc ?_); (case hc => first | assumption | exact cmul_l (by decide) (by decide) | exact cmul_r (by decide) (by decide)))
  | with_reducible refine ex_int ?_
  | with_reducible refine ex_str ?_
  | with_reducible refine ex_bl ?_
  | with_reducible refine ex_non ?_
  | with_reducible refine ex_raw ?_
  | with_reducible refine ex_op ?_
  | with_reducible refine ex_un ?_
  | with_reducible refine ex_cb ?_
  | with_reducible refine ex_tup ?_
  | with_reducible refine ex_sl ?_
  | with_reducible refine ox_none ?_
  | with_reducible refine ox_some ?_
  | with_reducible refine ax_nil ?_
  | with_reducible refine ax_cons ?_
  | with_reducible refine ex_if ?_
  | with_reducible refine ex_andV ?_
  | with_reducible refine ex_orV ?_
  | with_reducible refine ex_notV ?_
  | with_reducible refine ex_m0 ?_
  | with_reducible refine ex_m1 ?_
  | with_reducible refine tx_test ?_
  | with_reducible refine tx_B ?_
  | with_reducible refine tx_and ?_
  | with_reducible refine tx_or ?_
  | with_reducible refine tx_not ?_
  | with_reducible refine tx_yes ?_
  | with_reducible refine sx_seq ?_
  | with_reducible refine sx_set ?_
  | with_reducible refine sx_ret ?_
  | with_reducible refine sx_drop ?_
  | with_reducible refine sx_next ?_
  | with_reducible refine sx_if ?_
  | with_reducible refine sx_retN ?_
  | with_reducible refine sx_asg ?_
  | with_reducible refine sx_par ?_
  | with_reducible refine gx_name ?_
  | with_reducible refine gxs_cons ?_
  | with_reducible refine gxs_nil ?_
  | with_reducible refine rx_add_int ?_
  | with_reducible refine rx_I0i ?_
  | with_reducible refine rx_I0b ?_
  | with_reducible refine rx_eq_int ?_
  | with_reducible refine rx_ne_int ?_
  | with_reducible refine rx_eq_str ?_
  | with_reducible refine rx_ne_str ?_
  | with_reducible refine rx_eq_bl ?_
  | with_reducible refine rx_ne_bl ?_
  | with_reducible refine lx_tup ?_
  | with_reducible refine lx_lst ?_
  | with_reducible refine cx_len_tup ?_
  | with_reducible refine cx_len_lst ?_
  | with_reducible refine cx_len_frl ?_
  | with_reducible refine cx_max2 ?_
  | with_reducible refine ux_neg ?_
  | with_reducible refine cx_list_lst ?_
  | with_reducible refine cx_tuple_lst ?_
  | with_reducible refine cx_tuple_tup ?_
  | with_reducible refine mx_isdigit ?_
  | with_reducible refine mx_startswith ?_
  | with_reducible refine ix_any ?_
  | with_reducible refine And.intro (Nat.le_of_ble_eq_true rfl) ?_
  | refine Exists.intro _ (And.intro rfl ?_))
local macro_rules | `(tactic| walk_at "w") => `(tactic| repeat (walk_at "w1"))
section
variable {P : Program} {w : World} {K : PySem.W.Frag} {mg : Str → Option Value} {base : Heap} {C WE BP BT NC BJ S BW TM TF BS UN NP UF DP DF J UR SC JC CG RB RS FJ f g : Addr} {fd : FuncData}
theorem ok_reason_against {f : Addr} {fd : FuncData} (F : Fun K "reason_against" "reason_against" s_reason_against f fd) (T : Tx K mg C) (TR : TxR K mg JC SC CG) (c_len : LenR P w K mg base 1 C (spLenP K C)) (c_sticks : PrpR P w K mg base 2 C "sticks" (spSticks K C)) (c_iniS : MkR P w K mg base 1 SC "StickCount" (spIniS K SC)) (c_holdS : MetR P w K mg base 4 SC "holds" (spHoldS K C SC)) (c_holdC : MetR P w K mg base 4 CG "holds" (spHoldC K C CG)) (c_congruences : Cal P w K mg base 5 "congruences" (spCongs K C CG)) : FnOk P w K mg base CX0 7 f fd ["start", "goal"] (spReason K C JC SC CG) := by
  refine F.ok sc_reason_against (spD_len (n := 2) (fun x ds M h => by rw [h.1] <;> rfl)) (fun cdv A outer s H vs Q E hr h => ⟨_, (pss_cons (ps_if (pt_cmpR (op_neA hr.units) (pe_callB (call_lenR c_len hr (by decide)) (by rfl) T.n_len (by decide +kernel) (pa_cons (pv 0) pa_nil)) (pe_callB (call_lenR c_len hr (by decide)) (by rfl) T.n_len (by decide +kernel) (pa_cons (pv 1) pa_nil)) (nomark _)) (pss_one (ps_ret (pe_bare TR.bJ TR.gJ rfl))) pss_nil) (pss_cons (ps_setLc (i := 2) (own := [("stick", 4)]) rfl sc_reason_against.nd rfl rfl (sw_true rfl rfl rfl (by decide +kernel)) (pi_any (pe_op op_addA (pe_pR c_sticks hr (by decide) (pv 0)) (pe_pR c_sticks hr (by decide) (pv 1)))) (blkOk_by (own := [("stick", 4)]) (N := ["start", "goal", "differing", "reason", "stick"]) (sc := defScope s_reason_against) (by decide +kernel)) (fun _ _ _ _ _ => (pg_name (i := 4) sc_reason_against.nd rfl (Or.inl rfl))) (fun _ _ _ _ _ => (pts_one (pt_val (pe_mR c_holdS hr (by decide) (pe_mkA c_iniS hr (by decide) rfl (pa_cons (pv 4) pa_nil)) (pa_cons (pv 0) (pa_cons (pv 1) pa_nil)))))) (fun _ _ _ _ _ => (pv 4))) (pss_cons (ps_if (pt_tru (pv 2)) (pss_one (ps_ret (pe_mkA c_iniS hr (by decide) rfl (pa_cons (pe_callB (cr_minD rfl (u65 hr)) (by rfl) T.n_min (by decide +kernel) (pa_cons (pv 2) pa_nil)) pa_nil)))) pss_nil) (pss_cons (ps_for PassesOwn.never rfl (pi_any (pe_c c_congruences hr (by decide) rfl (pa_cons (pv 0) pa_nil))) (pg_name (i := 3) sc_reason_against.nd rfl (Or.inl rfl)) (pss_one (ps_if (pt_val (pe_mR c_holdC hr (by decide) (pv 3) (pa_cons (pv 0) (pa_cons (pv 1) pa_nil)))) (pss_one (ps_ret (pv 3))) pss_nil))) (pss_one (ps_ret pe_non)))))), enter h ?_⟩)
  try dsimp only [cxOf, Cx.nox, Cx.wish]
  rintro ⟨ps, qs⟩ ds M ⟨rfl, hp, hq⟩
  dsimp only at *
  have l1 : ps.length ≤ 1000 := Nat.le_trans hp.l8 (by decide)
  have l2 : qs.length ≤ 1000 := Nat.le_trans hq.l8 (by decide)
  refine sx_seq (sx_if (tx_test (ex_op (ex_cb (ax_cons (ex_var rfl (ax_nil (cx_lenO ⟨ps, ⟨rfl, l1⟩, ?_⟩))))))))
  rintro d M2 ⟨rfl, rfl⟩
  refine ⟨_, rfl, by omega, by omega, ?_⟩
  refine ex_cb (ax_cons (ex_var rfl (ax_nil (cx_lenO ⟨qs, ⟨rfl, l2⟩, ?_⟩))))
  rintro d M3 ⟨rfl, rfl⟩
  refine ⟨_, rfl, by omega, by omega, rx_ne_int ⟨_, rfl, fun hw => ?_, fun hw => ?_⟩⟩
  · have ne : ps.length ≠ qs.length := fun e => by simp [e] at hw
    exact sx_ret (ex_bare ⟨_, Sub.refl _, rfl, .len ne⟩)
  have el : ps.length = qs.length := by
    have h2 := hw
    simp at h2
    omega
  clear hw
  refine sx_next ?_
  have al : (sticksP ps ++ sticksP qs).length ≤ 16 := by
    rw [List.length_append, sticksP_length, sticksP_length]
    have a := hp.l8
    have b := hq.l8
    omega
  refine sx_seq (sx_set (ex_lc (by exact gw_name (by decide)) (ix_any (ex_op (ex_sticks l1 (ex_var rfl ⟨rfl, ex_sticks l2 (ex_var rfl ⟨rfl, rx_add_tup ?_ ?_⟩)⟩))))))
  · rw [List.length_map, List.length_map, sticksP_length, sticksP_length]
    exact Nat.le_trans (Nat.add_le_add l1 l2) (by decide)
  rw [← List.map_append]
  refine ⟨_, _, .inl ⟨.inr (.inr rfl), rfl⟩, ?_, fun i acc M' => acc = (((sticksP ps ++ sticksP qs).take i).filter fun s => decide ((sticksP ps).count s ≠ (sticksP qs).count s)).map P2 ∧ Sub M3 M', ⟨rfl, Sub.refl _⟩, fun _ _ _ _ _ => trivial, ?_, ?_⟩
  · rw [List.length_map]
    exact Nat.lt_of_le_of_lt al (by decide)
  · rintro i d acc M' hi ⟨rfl, hs⟩ _
    rw [List.getElem?_map] at hi
    obtain ⟨s, hsi, rfl⟩ := Option.map_eq_some_iff.mp hi
    refine gx_name (tx_test (ex_methP (ex_frzI (ex_makeA (ax_cons (ex_var rfl (ax_nil fun x hx => ⟨(x, P2 s), ⟨rfl, put_same⟩, ?_⟩)))))))
    rintro d M5 ⟨rfl, rfl⟩
    refine ⟨rfl, x, SC, _, rfl, put_same, _, rfl, rfl, ax_cons (ex_var rfl (ax_cons (ex_var rfl (ax_nil ⟨(s, ps, qs), rfl, ⟨l1, l2⟩, _, rfl, fun hw => ?_, fun hw => ?_⟩))))⟩
    · rw [put_put]
      refine ex_var rfl ⟨?_, del_put_sub hs (sub_none hs hx)⟩
      rw [filter_take hsi, if_pos hw, List.map_append] <;> rfl
    · rw [put_put]
      refine ⟨?_, del_put_sub hs (sub_none hs hx)⟩
      rw [filter_take hsi, if_neg (by rw [hw]; decide), List.append_nil]
  · rintro acc M4 ⟨rfl, hs⟩ _
    rw [List.length_map, List.take_length]
    show SX K _ _ _ _
    refine sx_seq (sx_if (tx_tru_lst (ex_var rfl ⟨_, rfl, fun hw => ?_, fun hw => ?_⟩)))
    · have ne : dfs ps qs ≠ [] := fun e => by
        have e2 : ((sticksP ps ++ sticksP qs).filter fun s => decide ((sticksP ps).count s ≠ (sticksP qs).count s)) = [] := e
        rw [e2] at hw
        simp at hw
      have e3 : dfs ps qs = (sticksP ps ++ sticksP qs).filter fun s => decide ((sticksP ps).count s ≠ (sticksP qs).count s) := rfl
      rw [← e3]
      obtain ⟨z, zs, ez⟩ := List.exists_cons_of_ne_nil ne
      rw [ez]
      refine sx_ret (ex_frzI (ex_makeA (ax_cons (ex_cb (ax_cons (ex_var rfl (ax_nil (cx_minP fun m hm lm => ax_nil fun x hx => ⟨(x, P2 m), ⟨rfl, put_same⟩, ?_⟩))))))))
      rintro d M5 ⟨rfl, rfl⟩
      refine ⟨rfl, x, SC, _, rfl, put_same, M3, ?_, rfl, .stk el (by rw [ez]; exact hm) (by rw [ez]; exact lm)⟩
      rw [put_put]
      exact del_put_sub hs (sub_none hs hx)
    · have e : dfs ps qs = [] := by
        have e2 : ((sticksP ps ++ sticksP qs).filter fun s => decide ((sticksP ps).count s ≠ (sticksP qs).count s)) = [] := by
          cases h3 : (sticksP ps ++ sticksP qs).filter fun s => decide ((sticksP ps).count s ≠ (sticksP qs).count s) with
          | nil => rfl
          | cons x xs =>
            rw [h3] at hw
            simp at hw
        exact e2
      clear hw
      refine sx_next ?_
      have ans : ∀ {d : Dt} {M' : Mm}, d = lastD CG ps qs → Sub M3 M' → (retE fun d M' => M' = M3 ∧ ResR JC SC CG ps qs d).rt d M' := fun {d M'} ed s => ⟨M3, s, rfl, ed ▸ .last el e⟩
      refine sx_seqc (fun ρ' M' => Sub M3 M' ∧ holdC (cgA ps) ps qs = false ∧ holdC (cgB ps) ps qs = false) (sx_for (ix_any (ex_callP (ax_cons (ex_var rfl (ax_nil ⟨ps, rfl, hp, ?_⟩)))))) ?_
      · refine ⟨_, _, .inl ⟨.inr (.inr rfl), rfl⟩, fun i ρ' M' => Sub M3 M' ∧ (∃ x2 x3 x4, ρ' = [some (polyD C ps), some (polyD C qs), x2, x3, x4]) ∧ (1 ≤ i → holdC (cgA ps) ps qs = false) ∧ (2 ≤ i → holdC (cgB ps) ps qs = false), ?_, fun _ _ _ _ _ => trivial, ?_, ?_⟩
        · exact ⟨hs, ⟨_, _, _, rfl⟩, fun h => absurd h (by decide), fun h => absurd h (by decide)⟩
        · rintro i d ρ' M' hi ⟨h1, ⟨x2, x3, x4, rfl⟩, ha, hb⟩
          match i, hi with
          | 0, hi =>
            cases hi
            refine gx_name (sx_if (tx_test (ex_methP (ex_var rfl ⟨_, rfl, rfl, ax_cons (ex_var rfl (ax_cons (ex_var rfl (ax_nil ⟨(cgA ps, ps, qs), rfl, ⟨hp.okA, hp, hq⟩, _, rfl, fun hw => ?_, fun hw => ?_⟩))))⟩))))
            · refine sx_ret (ex_var rfl (ans ?_ h1))
              unfold lastD
              rw [if_pos hw]
            · exact sx_next ⟨h1, ⟨_, _, _, rfl⟩, fun _ => hw, fun h => absurd h (by decide)⟩
          | 1, hi =>
            cases hi
            have ha := ha (by decide)
            refine gx_name (sx_if (tx_test (ex_methP (ex_var rfl ⟨_, rfl, rfl, ax_cons (ex_var rfl (ax_cons (ex_var rfl (ax_nil ⟨(cgB ps, ps, qs), rfl, ⟨hp.okB, hp, hq⟩, _, rfl, fun hw => ?_, fun hw => ?_⟩))))⟩))))
            · refine sx_ret (ex_var rfl (ans ?_ h1))
              unfold lastD
              rw [if_neg (by rw [ha]; decide), if_pos hw]
            · exact sx_next ⟨h1, ⟨_, _, _, rfl⟩, fun _ => ha, fun _ => hw⟩
        · rintro ρ' M' ⟨h1, _, ha, hb⟩
          exact ⟨h1, ha (by show (1 : Nat) ≤ 2; decide), hb (Nat.le_refl 2)⟩
      · rintro ρ' M' ⟨h1, ha, hb⟩
        refine sx_ret (ex_non (ans ?_ h1))
        unfold lastD
        rw [if_neg (by rw [ha]; decide), if_neg (by rw [hb]; decide)]
end
end Wk
namespace Wk
open PySem PySem.Spec PyProof.Rows L2 NdefX
/-- what is asked of the caller: the base's method, then the rest, then the sum -/
def spSup (K : PySem.W.Frag) (D : Addr) (sp2 : Sp) (te : TE) : Sp := fun vs H Q E => ∃ a dx fs, vs = [V.ref a] ∧ H a = some (.ins D dx fs) ∧ sp2 [V.ref a] H (fun v H1 => te [some (.ref a), none] H1 fun y H2 => rAddA K v y H2 Q) E0
theorem fn_sup {P : Program} {w : World} {K : PySem.W.Frag} {mg : Str → Option Value} {base : Heap} {k : Nat} {f f2 cc cda D : Addr} {name qual m file : Str} {params : Arguments} {scope : Scope} {dV kV doc pm ct oc ccl cl : Value} {an od cdd cld : Option Addr} {osl ccs csl : Array (Option Value)} {vs0 : Array Value} {tf : Tok} {cdD : ClassData} {ar : Arg}
    {e2 : Expr} {te : TE} {p0 p1 p2 p3 p4 ap : Pos} {sp2 : Sp}
    (lk : K.lookup f = some ⟨oc, od, .func (PySem.W.fnX name qual params [.Return (some (.BinOp (.Call (.Attribute (.Call (.Name "super" p0) [] [] p1) m ap) [] [] p2) .Add e2 p3)) p4] scope [("__class__", cc)] dV kV doc pm an (.ref cda) ct), osl⟩)
    (hcd : PySem.W.codeIn K (.ref cda) qual = true) (S : NScope [("self" : Str), "__class__"] ["self"] ["__class__"] scope) (hks : scope.names.lookup ("super" : Str) = some .globalImplicit)
    (hp : (params.posonlyargs ++ params.args).head? = some ar) (har : ar.arg = ("self" : Str)) (hat : (m == ("__class__" : Str)) = false)
    (hb : ∀ u : Value, bindArgs (PySem.W.fnX name qual params [.Return (some (.BinOp (.Call (.Attribute (.Call (.Name "super" p0) [] [] p1) m ap) [] [] p2) .Add e2 p3)) p4] scope [("__class__", cc)] dV kV doc pm an (.ref cda) ct) ⟨[u], []⟩ = pure [(("self" : Str), u)])
    (hcode : K.lookup cda = some ⟨ccl, cdd, .fields vs0, ccs⟩) (hvs : vs0[2]? = some (.str file tf)) (hfile : ((P.main.file : Str) == file) = true) (hcell : K.lookup cc = some ⟨cl, cld, .cell (some (.ref D)), csl⟩)
    (hD : PySem.W.clsIn K D = some cdD) (hsub : PySem.W.mroIn K D (.ref D) = some true) (hsuper : mg "super" = none) (htop : (P.main.scope.names.lookup ("super" : Str)).isSome = false) (hop : PySem.W.nsIn K cStatics "thirdparty.any" = some none)
    (hsi : PySem.W.ks_superIn K D D m = some (some (.ref f2))) (ht : PySem.W.typeIn K (.ref f2) = some (.type "function")) (hfn : PySem.W.fnIn K f2 = true)
    {pl : Env → Sem Bool} (hev : ∀ env : Env, eval (.Call (.Attribute (.Call (.Name "super" p0) [] [] p1) m ap) [] [] p2) env = (do
      let ov ← attributeBase (.Call (.Name "super" p0) [] [] p1) m env (eval (.Call (.Name "super" p0) [] [] p1) env)
      standAt ap.atName
      let (g, first) ← holding [ov] (getMethod ov m (pl env))
      callWith p2 g first (backTo p2 (starEach [] env)) []))
    (F2 : FnR P w K mg base CX0 k f2 sp2) (he : ∀ (A : Around) (outer : List Env) (s : Shared) (H : Hp) (E : XK), PE (ncx CX0 P w K mg base [("self" : Str), "__class__"] ⟨name, qual, params, [.Return (some (.BinOp (.Call (.Attribute (.Call (.Name "super" p0) [] [] p1) m ap) [] [] p2) .Add e2 p3)) p4], scope, [(("__class__" : Str), cc)], cda⟩ f A outer s H E) e2 te) :
    FnR P w K mg base CX0 (k + 1) f (spSup K D sp2 te) := by
  intro A outer s H us vs Q E hr e0 r hsp
  obtain ⟨a, dx, fs, rfl, ha, h2⟩ := hsp
  obtain ⟨u, rfl, ru⟩ := vals1 r
  cases (show u = Value.ref a from ru)
  have X : K.In s.heap := e0.mod.kin.keeps fun b o e => (e0.bs b o e).1
  have lim : s.heap.NoLimit := e0.mod.nolimit.keeps fun b o e => (e0.bs b o e).1
  refine ks_codeAny_call_defAt (binds := [(("self" : Str), Value.ref a)]) hr.depth (X _ _ lk) rfl lim (PySem.W.codeRec_of X hcd) rfl (.of_eq (hb _)) S.nocell (fun x hx => ?_) (fun h₁ hns kp => ?_) S.co S.gen S.kind
  · rw [List.mem_singleton.mp hx]
    exact S.par _ List.mem_cons_self
  have cl1 : ∀ (y : Str) (c : Addr), ([(("__class__" : Str), cc)] : List (Str × Addr)).lookup y = some c → y = ("__class__" : Str) ∧ c = cc := fun y c e => by
    have z := PySem.mem_of_lookup e
    rw [List.mem_singleton] at z
    cases z
    exact ⟨rfl, rfl⟩
  have C : CellsAt [(("__class__" : Str), cc)] [("__class__" : Str)] [none] s.heap H := by
    refine ⟨rfl, fun y c e => ?_, fun x y c e1 e2 => (cl1 x c e1).1.trans (cl1 y c e2).1.symm, fun i y hi => ?_⟩
    · obtain ⟨rfl, rfl⟩ := cl1 y c e
      exact ⟨(e0.bs _ _ (e0.mod.kin _ _ hcell)).2, _, _, X _ _ hcell, rfl⟩
    · have z : y = ("__class__" : Str) := List.mem_singleton.mp (List.mem_of_getElem? hi)
      subst z
      refine ⟨cc, rfl, fun v hv => ?_⟩
      have hi0 : i = 0 := by
        have := (List.getElem?_eq_some_iff.mp hi).1
        simp at this
        exact this
      subst hi0
      cases hv
  have I := inv_startN (CX := CX0) (P := P) (w := w) (K := K) (mg := mg) (base := base) (N := [("self" : Str), "__class__"]) (F := ⟨name, qual, params, [.Return (some (.BinOp (.Call (.Attribute (.Call (.Name "super" p0) [] [] p1) m ap) [] [] p2) .Add e2 p3)) p4], scope, [(("__class__" : Str), cc)], cda⟩) (f := f) (A := A) (outer := outer) (s := s) (H := H) (E := E) (us := [.ref a]) (vs := [V.ref a]) (ws := [none]) (tk := s.toks + 1) S hr.hd e0 rfl r C hns kp
  have X1 : K.In h₁ := X.keeps kp
  obtain ⟨oD, hD1, hD2⟩ : ∃ oD, h₁.get? D = some oD ∧ oD.data = .cls cdD := by
    unfold PySem.W.clsIn at hD
    split at hD
    · rename_i c d cd' sl ho
      cases hD
      exact ⟨_, X1 _ _ ho, rfl⟩
    · cases hD
  obtain ⟨mA, O, _⟩ := ins_get I.hok ha
  obtain ⟨odx, J, _⟩ := O.look
  have hnc : ∀ c, (PySem.W.instObj D dx).data ≠ .cls c := fun c e => by
    have z := J.no
    unfold PySem.W.notCls at z
    rw [e] at z
    cases z
  have hne : a ≠ D := fun e => by
    subst e
    have z := J.at_
    rw [hD1] at z
    cases z
    exact hnc _ hD2
  obtain ⟨mb, bl, boot⟩ := I.ok.mod.blt
  have hkc : scope.names.lookup ("__class__" : Str) = some .free := S.frk _ List.mem_cons_self
  refine ks_wpAt_execs_cons (ks_wpAt_Return_some (ks_wpAt_BinOp (ks_wpAt_MethodCall (ks_wpAt_super_base hks hkc hat rfl (X1 _ _ lk) rfl hp rfl (X1 _ _ hcode) rfl hvs hfile htop ?_) (hev _))))
  refine PySem.W.ks_loadName_global S.kind hks (PySem.Calls.loadGlobal_builtin (I.ok.mod.glob.keeps I.bk) hsuper (bl.keeps I.bk) ((boot "super" (by decide)).trans (by decide +kernel)) ⟨rfl, ?_⟩)
  refine wpAny_loadName_free S.kind hkc rfl ⟨_, X1 _ _ hcell, rfl⟩ ?_
  rw [har]
  refine wpAny_loadName_local S.kind (S.par _ List.mem_cons_self) hns rfl ?_
  refine ks_wpAny_isType_cls hD1 hD2 ⟨rfl, ?_⟩
  refine ks_wpAny_call_super hD1 hD2 J.at_ J.cls hnc (PySem.W.looks_mroIn X1 hsub) (fun h' e k => ?_)
  have I2 := I.kept (t' := s.toks + 1) k
  have X2 : K.In h' := X1.keeps k
  obtain ⟨of, hof, hofc⟩ : ∃ of, h'.get? f2 = some of ∧ of.cls = .type "function" := by
    have ht' : (K.lookup f2).map (·.cls) = some (.type "function") := ht
    cases z : K.lookup f2 with
    | none => rw [z] at ht'; cases ht'
    | some of => rw [z] at ht'; exact ⟨of, X2 _ _ z, Option.some.inj ht'⟩
  have hal : PySem.W.alongIn K m ((cdD.mro.dropWhile (· != .ref D)).drop 1) = some (some (.ref f2)) := by
    unfold PySem.W.ks_superIn at hsi
    rw [hD] at hsi
    exact hsi
  refine ks_wpAny_getMethod_super e (PySem.W.looks_opaque X2 hop) (l₀ := cdD.mro) ?_ rfl X2 hal hof hofc hne hat ?_
  · exact fun A Q E s k q => wpAny_bind ((PySem.W.looks_clsIn X2 hD) A _ E s k (wpAny_pure q))
  have kp3 : ∀ b o, h'.get? b = some o → (h'.push { cls := .type "method", data := .fields #[.ref f2, .ref a] }).get? b = some o := fun b o e => Heap.get?_push_of_some _ e
  have I3 := I2.kept (t' := s.toks + 1 + 1) kp3
  refine PySem.W.callWith_M0 (K := K) (g := f2) (self := .ref a) ⟨Heap.get?_push_at rfl rfl, X2.keeps kp3⟩ hfn ?_
  refine wpAny_mono (wpAny_call (ks_codeAny_call_bound (f := f2) (x := .ref a) (Heap.get?_push_at rfl rfl) (run_fnR F2 (hr.deeper _) pass0 I3 r h2))) (fun v s' q => ?_) fun _ _ z => z
  obtain ⟨x, H1, I4, rx, q4⟩ := q
  have he' := he A outer s H E
  refine thn (he'.run [] s' _ H1 _ I4 q4) fun u2 s2 ⟨y, H2, I5, ry, q5⟩ => ?_
  refine thn (op_addA [] s2 _ H2 x y v u2 Q I5 rx ry q5) fun u3 s3 ⟨z, H3, I6, rz, q6⟩ => ?_
  exact ⟨z, H3, I6.os, I6.bare, I6.base, I6.hok, rz, q6⟩
end Wk
namespace Wk
open PySem L2 Evl
end Wk
namespace Wk
open PySem L2 Evl
/-- flips lead from the one to the other -/
structure NoR (ps qs : List Pt) : Prop where
  len : ps.length = qs.length
  pm : (sticksP ps).Perm (sticksP qs)
  mo : Mem (diffP (sticksP ps)) (subP (ptD qs 0) (ptD ps 0))
theorem NoR.symm {ps qs : List Pt} (h : NoR ps qs) : NoR qs ps := by
  refine ⟨h.len.symm, h.pm.symm, ?_⟩
  have z := mem_perm h.pm (mem_sub mem_nil h.mo)
  have q : subP (0, 0) (subP (ptD qs 0) (ptD ps 0)) = subP (ptD ps 0) (ptD qs 0) := by
    unfold subP
    exact Prod.ext (by dsimp only; omega) (by dsimp only; omega)
  rwa [q] at z
theorem NoR.refl (ps : List Pt) : NoR ps ps := by
  refine ⟨rfl, List.Perm.refl _, ?_⟩
  have e : subP (ptD ps 0) (ptD ps 0) = (0, 0) := Prod.ext (Int.sub_self _) (Int.sub_self _)
  rw [e]
  exact mem_nil
end Wk
namespace PySem
namespace KwE
open PySem.W PySem.Calls PyProof.Rows PySem.HandSPX
section
variable {prog : Program} {w : World} {A : Around} {E : Value → Shared → Prop} {R : Result → Shared → Prop} {h : Heap} {g : Array GenState} {d : PySem.Drawn} {t : Nat} {os : OsState}
variable {nm q : Str} {C N : Addr} {bs bm bmB : List Value} {hdct : Bool} {sn : List Str} {sub : List Value} {ab : Bool} {col : Option Bool} {dd : Option Addr} {k0 k1 k2 k3 k5 : Option Value} {B newId initId : String}
theorem past {α : Type} {M : Model} {p : Prop} [Decidable p] {x y : Sem α} {Q : α → Shared → Prop} {s : Shared} (n : ¬ p) (z : wpAny M A y Q E s) : wpAny M A (if p then x else y) Q E s := by
  rw [if_neg n]
  exact z
/-- the types above C: itself, and what stands above B -/
theorem kin (hT : ∀ X : String, bm.contains (.type X) = bmB.contains (.type X)) (X : String) {b : Bool} (e : bmB.contains (.type X) = b) : (Value.ref C :: bm).contains (.type X) = b := by
  rw [List.contains_cons, show (Value.type X == Value.ref C) = false from rfl, Bool.false_or, hT, e]
/-- C is a type -/
theorem isTy {Q : Bool → Shared → Prop} (hC : h.get? C = some (excClassObj nm q C N bs bm hdct sn sub ab col dd k0 k1 k2 k3 k5 newId)) (z : Q true ⟨h, g, d, t, os⟩) : wpAny (model prog w) A (isType (.ref C)) Q E ⟨h, g, d, t, os⟩ :=
  wpAny_bind (wpAny_loadPart_at hC (wpAny_pure z))
theorem ck (F : ExcBaseFacts B newId initId bmB) (hT : ∀ X : String, bm.contains (.type X) = bmB.contains (.type X)) {vs : List Value} {kw : List (Str × Value)} {Q : Unit → Shared → Prop}
    (hC : h.get? C = some (excClassObj nm q C N bs bm hdct sn sub ab col dd k0 k1 k2 k3 k5 newId)) (hq : Q () ⟨h, g, d, t, os⟩) : wpAny (model prog w) A (checkBuiltinCall newId ⟨.ref C :: vs, kw⟩) Q E ⟨h, g, d, t, os⟩ := by
  unfold checkBuiltinCall
  rw [F.newKind, F.newSplit, F.newRow]
  dsimp only
  rw [if_pos (by decide)]
  refine wpAny_bind (isTy hC ?_)
  rw [if_neg (by decide)]
  refine wpAny_bind (wpAny_isSubtype_exc hC ?_)
  rw [kin hT B F.hasB, if_neg (by decide)]
  refine wpAny_bind (wpAny_staticBase_exc hC (wpAny_bind (wpAny_madeBy_exc hC ?_)))
  dsimp only
  rw [if_neg (by rw [bne_self_eq_false]; decide)]
  have no : (B != "*") = true := F.noStar
  unfold Bind.checkArgs Bind.printed
  dsimp only
  refine wpAny_bind (?_ : wpAny _ _ (if (B != "*") = true then pure B else _) _ _ _)
  rw [if_pos no]
  refine wpAny_pure (wpAny_bind (?_ : wpAny _ _ (if (B != "*") = true then pure B else _) _ _ _))
  rw [if_pos no]
  exact wpAny_pure (wpAny_onRaise (wpAny_pure hq))
theorem own (F : ExcBaseFacts B newId initId bmB) {vs : List Value} {kw : List (Str × Value)} {Q : String → Shared → Prop} {s : Shared} (hq : Q B s) :
    wpAt (model prog w) A (.builtin newId ⟨vs, kw⟩) (do match ← stack with | (.builtin id _, _) :: _ => if id.endsWith ".__new__" then return id.dropRight 8 else unsupported "internal:__new__-under-another-id" | _ => unsupported "internal:__new__-without-activation") Q E s := by
  refine wpAt_bind (wpAt_stack fun p below => wpAt_of_wpAny ?_)
  dsimp only
  rw [F.ends, F.owner]
  exact wpAny_pure hq
/-- BaseException.__new__, whatever the keywords: a tuple of the arguments, the new exception -/
theorem born (F : ExcBaseFacts B newId initId bmB) (hT : ∀ X : String, bm.contains (.type X) = bmB.contains (.type X)) {vs : List Value} {kw : List (Str × Value)}
    (hC : h.get? C = some (excClassObj nm q C N bs bm hdct sn sub ab col dd k0 k1 k2 k3 k5 newId)) (hl : vs.length ≤ sizeLine)
    (hq : R (.ok (.ret (.ref (h.objs.size + 1)))) ⟨(h.push (W.kdv_tup vs)).push (excO C h.objs.size), g, d, t, os⟩) : codeAny (model prog w) A (.builtin newId ⟨.ref C :: vs, kw⟩) R ⟨h, g, d, t, os⟩ := by
  refine codeAny_builtinAt F.entry (wpAt_bind (own F (wpAt_of_wpAny ?_)))
  refine wpAny_bind (isTy hC ?_)
  rw [if_neg (by decide)]
  refine wpAny_bind (wpAny_isSubtype_exc hC ?_)
  rw [kin hT B F.hasB, if_neg (by decide)]
  refine wpAny_bind (wpAny_madeHere_exc F.canon hC (wpAny_bind (wpAny_bind (wpAny_isSubtype_exc hC ?_))))
  rw [kin hT _ F.noAttr, if_neg (by decide)]
  refine wpAny_bind (wpAny_isSubtype_exc hC ?_)
  rw [kin hT _ F.noName, if_neg (by decide)]
  refine wpAny_pure (wpAny_bind (wpAny_newTuple (wpAny_bind ?_) hl))
  have up : ∀ b o, h.get? b = some o → ((h.push (W.kdv_tup vs)).push (excO C h.objs.size)).get? b = some o := fun b o e => Heap.get?_push_of_some _ (Heap.get?_push_of_some _ e)
  unfold newObj newObjAsIs
  dsimp only
  refine past (fun z => absurd (show 6 > sizeLine + 2 from z) (by decide)) ?_
  refine wpAny_bind (wpAny_alloc (wpAny_bind (wpAny_bind (wpAny_load (up _ _ hC) (wpAny_pure ?_)))))
  refine past (fun z => absurd (show false = true from z) (by decide)) ?_
  have sz : (h.push (W.kdv_tup vs)).objs.size = h.objs.size + 1 := Heap.size_push ..
  rw [← sz] at hq
  exact wpAny_pure (wpAny_pure hq)
/-- type.__call__: the exception is made, then its own __init__ runs with the same arguments -/
theorem typed (F : ExcBaseFacts B newId initId bmB) (hT : ∀ X : String, bm.contains (.type X) = bmB.contains (.type X)) {vs : List Value} {kw : List (Str × Value)} {f : Addr} {Q : Fin → Shared → Prop}
    (hC : h.get? C = some (excClassObj nm q C N bs bm hdct sn sub ab col dd k0 k1 k2 k3 k5 newId)) (hl : vs.length ≤ sizeLine)
    (li : W.Looks (model prog w) h (typeLookup (.ref C) "__init__") (some (.ref f))) (lb : ∀ self, W.Looks (model prog w) h (bindSpecial (.ref f) self) (.ref f, [self]))
    (hq : codeAny (model prog w) A (.call (.ref f) ⟨.ref (h.objs.size + 1) :: vs, kw⟩) (fun r s' => match r with | .ok (.ret v) => v = .none ∧ Q (.done (.ret (.ref (h.objs.size + 1)))) s' | .ok _ => False | .error e => E e s')
      ⟨(h.push (W.kdv_tup vs)).push (excO C h.objs.size), g, d, t, os⟩) : wpAny (model prog w) A (Builtin.«type.__call__» ⟨.ref C :: vs, kw⟩) Q E ⟨h, g, d, t, os⟩ := by
  have up : ∀ b o, h.get? b = some o → ((h.push (W.kdv_tup vs)).push (excO C h.objs.size)).get? b = some o := fun b o e => Heap.get?_push_of_some _ (Heap.get?_push_of_some _ e)
  have sz : (h.push (W.kdv_tup vs)).objs.size = h.objs.size + 1 := Heap.size_push ..
  have it : ((h.push (W.kdv_tup vs)).push (excO C h.objs.size)).get? (h.objs.size + 1) = some (excO C h.objs.size) := by
    rw [← sz]
    exact Heap.get?_push_size _ rfl
  unfold Builtin.«type.__call__»
  dsimp only
  refine past (fun z => absurd (show false = true from z) (by decide)) (wpAny_bind (wpAny_mroOf_exc hC (past (fun z => absurd (show false = true from z) (by decide)) ?_)))
  refine wpAny_bind (wpAny_madeBy_exc hC (wpAny_bind (wpAny_pure ?_)))
  refine wpAny_bind (wpAny_holding (wpAny_call (codeAny_call_builtin_code (Code.quiet_builtin _ F.quiet) (ck F hT hC (born F hT hC hl ?_)))))
  have ty : ∀ {Q : Value → Shared → Prop}, Q (.ref C) ⟨(h.push (W.kdv_tup vs)).push (excO C h.objs.size), g, d, t, os⟩ → wpAny (model prog w) A (typeOf (.ref (h.objs.size + 1))) Q E ⟨(h.push (W.kdv_tup vs)).push (excO C h.objs.size), g, d, t, os⟩ :=
    fun z => wpAny_bind (wpAny_loadPart_at it (wpAny_pure z))
  show wpAny _ _ _ _ _ _
  refine wpAny_bind (wpAny_bind (ty (wpAny_isSubtype_exc (up _ _ hC) ?_)))
  rw [List.contains_cons, beq_self_eq_true, Bool.true_or]
  refine past (by decide) (wpAny_bind (wpAny_holding (wpAny_bind (wpAny_bind (ty ((li.keeps up).at ?_))))))
  refine wpAny_holding (wpAny_bind (((lb _).keeps up).at (wpAny_bind (wpAny_call (codeAny_mono hq fun r s' z => ?_)))))
  match r, z with
  | .error _, z => exact z
  | .ok (.ret _), ⟨rfl, z⟩ => exact wpAny_pure (past (by decide) (wpAny_pure z))
/-- C(..) of an exception class with an __init__ of its own, by place or by keyword -/
theorem call (F : ExcBaseFacts B newId initId bmB) (hT : ∀ X : String, bm.contains (.type X) = bmB.contains (.type X)) {vs : List Value} {kw : List (Str × Value)} {f : Addr}
    (hC : h.get? C = some (excClassObj nm q C N bs bm hdct sn sub ab col dd k0 k1 k2 k3 k5 newId))
    (li : W.Looks (model prog w) h (typeLookup (.ref C) "__init__") (some (.ref f))) (lb : ∀ self, W.Looks (model prog w) h (bindSpecial (.ref f) self) (.ref f, [self])) (hl : vs.length ≤ sizeLine)
    (hq : codeAny (model prog w) (A.under (.builtin "type.__call__" ⟨.ref C :: vs, kw⟩)) (.call (.ref f) ⟨.ref (h.objs.size + 1) :: vs, kw⟩) (W.InitBack (h.objs.size + 1) R)
      ⟨(h.push (W.kdv_tup vs)).push (excO C h.objs.size), g, d, t, os⟩) : codeAny (model prog w) A (.call (.ref C) ⟨vs, kw⟩) R ⟨h, g, d, t, os⟩ := by
  refine codeAny_of_tree (wpAny_bind (m := load C) (wpAny_load hC ?_))
  show wpAny _ _ (callAny.viaDunder (.ref C) ⟨vs, kw⟩) _ _ _
  have kind : W.Looks (model prog w) h (typeOf (.ref C)) (.type "type") := (W.Looks.ld (part := none) hC).andThen .now
  refine wpAny_bind (wpAny_bind (kind.at ?_))
  rw [tc_lookup]
  refine wpAny_pure (wpAny_bind ?_)
  rw [tc_bind]
  refine wpAny_pure (wpAny_bind (m := pure true) (wpAny_pure (wpAny_pure ⟨rfl, ?_⟩)))
  refine codeAny_call_builtin_at (Code.quiet_builtin (id := "type.__call__") _ (by decide +kernel)) entry_typeCall (W.check_slot tc_kind tc_split (kind.andThen (W.Looks.of_pure tc_sub)) (W.tc_args _ _ _) (typed F hT hC hl li lb ?_))
  exact codeAny_mono hq fun r s' z => match r, z with
    | .error _, z => z
    | .ok (.ret _), z => z
end
end KwE
end PySem
namespace Wk
open PySem PySem.Spec PyProof.Rows L2
open PySem.W (ksFn ksEnv kxs_mw KxsAt)
end Wk
namespace Wk
open PySem PySem.Spec PyProof.Rows L2
open PySem.W (ksFn ksEnv kxs_mw KxsAt)
end Wk
namespace Wk
open PySem PySem.Spec PyProof.Rows L2 Evl
end Wk
namespace Wk
open PySem PySem.Spec PyProof.Rows L2 Evl
/-- data that stand for one value only -/
def one : Dt → Bool
  | .int _ => true
  | .raw (.ref _) => true
  | _ => false
end Wk
namespace Wk
open PySem PySem.Spec PyProof.Rows L2 Evl
open PySem.W (ksFn ksEnv kxs_mw KxsAt)
end Wk
namespace Wk
open PySem PySem.Spec PyProof.Rows L2 Evl
end Wk
namespace Wk
open PySem PySem.Spec PyProof.Rows L2 Evl
open PySem.W (ksFn ksEnv kxs_mw KxsAt)
end Wk
namespace Wk
open PySem PySem.Spec PyProof.Rows L2 Evl
end Wk
namespace Wk
open PySem PySem.Spec PyProof.Rows L2 Evl
end Wk
namespace Wk
open PySem PySem.Spec PyProof.Rows L2
/-- the left one's __eq__ is asked first -/
def rOwnD (K : PySem.W.Frag) (C : Addr) (sp : Sp) (g : Bool → Bool) : R2 := fun x y H Q => ∃ a b D dx dy fs gs, x = .ref a ∧ y = .ref b ∧ H a = some (.ins C dx fs) ∧ H b = some (.ins D dy gs) ∧ PySem.W.notFirst K C (.ref D) = true ∧ sp [x, y] H (fun v H' => ∃ k, v = .bl k ∧ Q (.bl (g k)) H') E0
/-- the right one's class is a subclass: its __eq__ is asked first -/
def rOwnSub (K : PySem.W.Frag) (C D : Addr) (sp : Sp) : R2 := fun x y H Q => ∃ a b dx dy fs gs, x = .ref a ∧ y = .ref b ∧ H a = some (.ins C dx fs) ∧ H b = some (.ins D dy gs) ∧ sp [y, x] H (fun v H' => ∃ k, v = .bl k ∧ Q (.bl k) H') E0
section
variable {X : Cx} {k j : Nat} {C D : Addr} {sp : Sp}
theorem op_eqD2 (c : EqR X.prog X.w X.K X.mg X.base k C sp) (hr : Room j X.A) (hk : k ≤ j) : OpR X (compareOp .Eq) (rOwnD X.K C sp id) := by
  obtain ⟨f, o, _, F⟩ := c.ex
  rintro pins s σ H x y u v Q I rx ry ⟨a, b, D, dx, dy, fs, gs, rfl, rfl, ha, hb, hn, hq⟩
  cases rx
  cases ry
  obtain ⟨_, J1, _⟩ := ins_get I.hok ha
  obtain ⟨_, J2, _⟩ := ins_get I.hok hb
  obtain ⟨_, J1, _⟩ := J1.look
  obtain ⟨_, J2, _⟩ := J2.look
  obtain ⟨m, hF⟩ := I.fr
  refine PySem.W.cmp_K (op := .Eq) (tb := .ref D) (hr.mono hk).units0 hF I.ok.mod.kin J1 J2.type hn o.at_ o.fn ?_
  refine thn (eq_run F (hr.mono hk) rfl pass0 I hq fun _ _ z => z) fun u s1 ⟨v, H1, I1, rv, k, ev, q⟩ => ?_
  subst ev
  cases rv
  exact ⟨.bl k, H1, I1, rfl, q⟩
theorem op_eqS2 (c : EqR X.prog X.w X.K X.mg X.base k D sp) (hr : Room j X.A) (hk : k ≤ j) (hs : PySem.W.subIn X.K (.ref D) (.ref C) = some true) (hne : (Value.ref C != Value.ref D) = true) : OpR X (compareOp .Eq) (rOwnSub X.K C D sp) := by
  obtain ⟨f, o, _, F⟩ := c.ex
  rintro pins s σ H x y u v Q I rx ry ⟨a, b, dx, dy, fs, gs, rfl, rfl, ha, hb, hq⟩
  cases rx
  cases ry
  obtain ⟨_, J1, _⟩ := ins_get I.hok ha
  obtain ⟨_, J2, _⟩ := ins_get I.hok hb
  obtain ⟨_, J1, _⟩ := J1.look
  obtain ⟨_, J2, _⟩ := J2.look
  have KX := I.kIn
  show wpAny (model X.prog X.w) X.A (richCompare .Eq (.ref a) (.ref b)) (EP X pins σ Q) X.xe s
  have asked : wpAny (model X.prog X.w) X.A (tryCompare (.ref b) (cmpInfo .Eq).2.2 (.ref a)) (fun r t => ∃ z, r = some z ∧ EP X pins σ Q z t) X.xe s := by
    unfold tryCompare
    refine wpAny_bind (PySem.W.ifBound_K KX J2 o.at_ o.fn ?_)
    refine thn (eq_run F (hr.mono hk) rfl pass0 I hq fun _ _ z => z) fun u s1 ⟨v, H1, I1, rv, k, ev, q⟩ => ?_
    subst ev
    cases rv
    exact wpAny_pure ⟨_, rfl, .bl k, H1, I1, rfl, q⟩
  unfold richCompare
  simp only [oneThing_ref]
  refine wpAny_holding (wpAny_bind (wpAny_cRoomFor (hr.mono hk).units0 ?_))
  refine wpAny_bind (J1.type.here (wpAny_bind (J2.type.here ?_)))
  rw [if_pos hne]
  refine wpAny_bind ((PySem.W.looks_subIn KX hs).here ?_)
  rw [if_pos rfl]
  refine wpAny_bind (wpAny_mono asked (fun r t z => ?_) fun _ _ z => z)
  obtain ⟨z, rfl, hz⟩ := z
  exact wpAny_bind (wpAny_rule (wpAny_pure hz))
theorem op_neD2 (c : EqR X.prog X.w X.K X.mg X.base k C sp) (hr : Room j X.A) (hk : k + 1 ≤ j) : OpR X (compareOp .NotEq) (rOwnD X.K C sp not) := by
  obtain ⟨f, o, o2, F⟩ := c.ex
  rintro pins s σ H x y u v Q I rx ry ⟨a, b, D, dx, dy, fs, gs, rfl, rfl, ha, hb, hn0, hq⟩
  cases rx
  cases ry
  obtain ⟨_, J1, _⟩ := ins_get I.hok ha
  obtain ⟨_, J2, _⟩ := ins_get I.hok hb
  obtain ⟨_, J1, _⟩ := J1.look
  obtain ⟨_, J2, _⟩ := J2.look
  have hr2 := hr.mono hk
  have hr1 := hr2.in1
  have KX := I.kIn
  have ask : ∀ (A : Around) (E' : Value → Shared → Prop) (Q' : Unit → Shared → Prop), Q' () s → wpAny (model X.prog X.w) A (checkBuiltinCall "object.__ne__" ⟨[.ref a, .ref b], []⟩) Q' E' s := fun A E' Q' hQ => by
    simp only [checkBuiltinCall, PySem.F.cmpKind_ne, PySem.F.cmpSplit_ne]
    refine wpAny_bind ?_
    unfold isInstance
    refine wpAny_bind (J1.type.here ?_)
    refine (PySem.W.looks_subIn KX (t := .ref C) (base := .type "object") o2.ob).here ?_
    cases hsig : Manifest.signature? "object.__ne__" with
    | none => exact wpAny_pure hQ
    | some sig =>
      have h2 : Bind.checkArgs "object.__ne__" sig ⟨[.ref a, .ref b], []⟩ = pure () := by
        have q := PySem.F.cmpArgs_ne (.ref a) (.ref b)
        simp only [argsOk, hsig] at q
        exact q
      show wpAny (model X.prog X.w) A (Bind.checkArgs "object.__ne__" sig ⟨[.ref a, .ref b], []⟩) Q' E' _
      rw [h2]
      exact wpAny_pure hQ
  have core : wpAny (model X.prog X.w) X.A (call (.builtin "object.__ne__") [.ref a, .ref b]) (fun v s' => v ≠ .notImplemented ∧ EP X pins σ Q v s') X.xe s := by
    refine wpAny_call (codeAny_call_builtin (by decide +kernel) PySem.F.cmpEntry_ne (ask _ _ _ ?_))
    show wpAny (model X.prog X.w) X.A.in1 (Builtin.«object.__ne__» ⟨[.ref a, .ref b], []⟩) _ _ s
    unfold Builtin.«object.__ne__»
    refine wpAny_bind (m := slotArgs _ _ _) (wpAny_pure ?_)
    refine wpAny_bind (wpAny_cRoomFor hr1.units0 ?_)
    refine wpAny_bind (m := callSpecialIfBound? (.ref a) (Str.ofString "__eq__") [.ref b]) (PySem.W.ifBound_K KX J1 o.at_ o.fn ?_)
    refine thn (eq_run F hr1 rfl pass0 I hq fun _ _ z => z) fun u s1 ⟨v, H1, I1, rv, k, ev, q⟩ => ?_
    subst ev
    cases rv
    refine wpAny_bind (m := truthy (.bool k)) (wpAny_truthy_bool ?_)
    exact wpAny_pure ⟨(fun z => nomatch z), .bl (!k), H1, I1, rfl, q⟩
  have hbi := PySem.F.cmp_object.ne.bind (.ref a)
  have bound : wpAny (model X.prog X.w) X.A (callSpecialIfBound? (.ref a) (Str.ofString "__ne__") [.ref b]) (fun r s' => ∃ v, r = some v ∧ v ≠ .notImplemented ∧ EP X pins σ Q v s') X.xe s := by
    simp only [callSpecialIfBound?, bindSpecialIfBound?]
    refine wpAny_holding (wpAny_bind (wpAny_bind (wpAny_bind (J1.type.here ((PySem.W.looks_findIn KX o2.ne).here ?_)))))
    refine wpAny_bind (wpAny_askSetting (wpAny_ite ?_))
    have fin : wpAny (model X.prog X.w) X.A (call (.builtin "object.__ne__") ([.ref a] ++ [.ref b]) >>= fun v => pure (some v)) (fun r s' => ∃ v, r = some v ∧ v ≠ .notImplemented ∧ EP X pins σ Q v s') X.xe s :=
      wpAny_bind (wpAny_mono core (fun v s' z => wpAny_pure ⟨v, rfl, z.1, z.2⟩) fun _ _ z => z)
    split
    · rw [hbi]
      exact wpAny_bind (wpAny_pure (wpAny_pure (by exact fin)))
    · rw [hbi]
      exact wpAny_tryCatch (wpAny_bind (wpAny_pure (wpAny_pure (by exact fin))))
  have one : wpAny (model X.prog X.w) X.A (tryCompare (.ref a) (cmpInfo .NotEq).2.1 (.ref b)) (fun r s' => ∃ v, r = some v ∧ EP X pins σ Q v s') X.xe s := by
    unfold tryCompare
    refine wpAny_bind (wpAny_mono bound (fun r s' z => ?_) fun _ _ e => e)
    obtain ⟨v, rfl, hn, z⟩ := z
    cases v <;> first | exact absurd rfl hn | exact wpAny_pure ⟨_, rfl, z⟩
  show wpAny (model X.prog X.w) X.A (richCompare .NotEq (.ref a) (.ref b)) (EP X pins σ Q) X.xe s
  unfold richCompare
  simp only [oneThing_ref]
  refine wpAny_holding (wpAny_bind (wpAny_cRoomFor hr2.units0 ?_))
  refine wpAny_bind (J1.type.here (wpAny_bind (J2.type.here ?_)))
  have last : wpAny (model X.prog X.w) X.A (do
      if let some v ← tryCompare (.ref a) (cmpInfo .NotEq).2.1 (.ref b) then return v
      if !false then
        if let some v ← tryCompare (.ref b) (cmpInfo .NotEq).2.2 (.ref a) then return v
      rule "compare.ne-identity"
      return .bool (!(← isSame (.ref a) (.ref b)))) (EP X pins σ Q) X.xe s := by
    refine wpAny_bind (wpAny_mono one (fun r t z => ?_) fun _ _ e => e)
    obtain ⟨v, rfl, hz⟩ := z
    exact wpAny_pure hz
  by_cases hcd : (Value.ref C != Value.ref D) = true
  · have hs : PySem.W.subIn X.K (.ref D) (.ref C) = some false := by
      unfold PySem.W.notFirst at hn0
      rcases Bool.or_eq_true_iff.mp hn0 with z | z
      · rw [beq_iff_eq.mp z] at hcd
        simp at hcd
      · exact beq_iff_eq.mp z
    rw [if_pos hcd]
    refine wpAny_bind ((PySem.W.looks_subIn KX hs).here ?_)
    exact last
  · rw [if_neg hcd]
    exact wpAny_bind (wpAny_pure last)
end
end Wk
namespace Wk
open PySem PySem.Spec PyProof.Rows L2 Evl
structure TxR2 (K : PySem.W.Frag) (JC SC CG : Addr) : Prop where
  kSJ : PySem.W.kitOne K (.ref SC) (.ref JC) = some false
  kCJ : PySem.W.kitOne K (.ref CG) (.ref JC) = some false
  kCS : PySem.W.kitOne K (.ref CG) (.ref SC) = some false
section
variable {K : PySem.W.Frag} {M : Mm} {Φ : Dt → Mm → Prop}
theorem int_cells {K : PySem.W.Frag} {H : Hp} : ∀ {us : List V} {ns : List Int}, RpAll K H us (ns.map Dt.int) → us = ns.map V.int
  | _, [], r => by cases r; rfl
  | _, n :: ns, r => by
    cases r with
    | cons r rr => rw [r.int_inv, int_cells rr] <;> rfl
theorem cx_maxI {ns : List Int} (h : 0 < ns.length) (k : ∀ m, m ∈ ns → (∀ y ∈ ns, y ≤ m) → Φ (.int m) M) : CX K (rMax K) [.lst (ns.map Dt.int)] M Φ := fun B H H1 vs o r Q q => by
  cases r with
  | cons r rr =>
    cases rr
    obtain ⟨a, us, rfl, h1, r1⟩ := r.lst_inv
    have e := int_cells r1
    subst e
    exact ⟨a, ns, rfl, sq_of (o.h _ _ h1), h, fun m hm hl => q _ _ M H H1 (k m hm hl) o (Ex.refl H) (.int m)⟩
end
end Wk
namespace Wk
open PySem PySem.Spec PyProof.Rows L2 Evl
inductive Rsn where
  | rs
  | jc
  | sc (v : Pt)
  | cg (c : Cg)
deriving DecidableEq
section
variable (RS JC SC CG : Addr)
def Rsn.dt : Rsn → Dt
  | .rs => .obj RS []
  | .jc => jcD JC
  | .sc v => scD SC v
  | .cg c => cgD CG c
def Rsn.cl : Rsn → Addr
  | .rs => RS
  | .jc => JC
  | .sc _ => SC
  | .cg _ => CG
end
def Rsn.ok : Rsn → Prop
  | .rs => True
  | .jc => True
  | .sc v => v.1.natAbs < 2 ^ 900 ∧ v.2.natAbs < 2 ^ 900
  | .cg c => c.1.natAbs < 2 ^ 990 ∧ c.2.1.natAbs < 2 ^ 990 ∧ c.2.2.natAbs < 2 ^ 990 ∧ 0 ≤ c.2.2
def Rsn.holds (r : Rsn) (ps qs : List Pt) : Bool := match r with
  | .rs => false
  | .jc => decide (ps.length ≠ qs.length)
  | .sc v => decide ((sticksP ps).count v ≠ (sticksP qs).count v)
  | .cg c => holdC c ps qs
section
variable {K : PySem.W.Frag} {ρ : Rho} {M : Mm} {Φ : Dt → Mm → Prop} {α : Type} {pre : α → List Dt → Mm → Prop} {post : α → Mm → Dt → Mm → Prop} {C D : Addr}
theorem rx_ownD {g : Bool → Bool} {fs gs : List (Str × Dt)} (hn : PySem.W.notFirst K C (.ref D) = true) (h : ∃ z, pre z [.obj C fs, .obj D gs] M ∧ ∀ d M', post z M d M' → ∃ b, d = .bl b ∧ Φ (.bl (g b)) M') : RX K (rOwnD K C (SpD K pre post) g) (.obj C fs) (.obj D gs) M Φ := fun B H H1 vx vy o rx ry Q q => by
  obtain ⟨z, z1, z2⟩ := h
  obtain ⟨a, dx, us, rfl, h1, r1⟩ := rx.obj_inv
  obtain ⟨b, dy, ws, rfl, h2, r2⟩ := ry.obj_inv
  refine ⟨a, b, D, dx, dy, us, ws, rfl, rfl, o.h _ _ h1, o.h _ _ h2, hn, z, B, H, M, _, o, .cons rx (.one ry), z1, fun v d M3 H5 H6 hp k3 e3 r3 => ?_⟩
  obtain ⟨b, rfl, z3⟩ := z2 d M3 hp
  exact ⟨b, r3.bl_inv, q _ _ _ _ _ z3 k3 e3 (.bl _)⟩
theorem rx_ownS {fs gs : List (Str × Dt)} (h : ∃ z, pre z [.obj D gs, .obj C fs] M ∧ ∀ d M', post z M d M' → ∃ b, d = .bl b ∧ Φ (.bl b) M') : RX K (rOwnSub K C D (SpD K pre post)) (.obj C fs) (.obj D gs) M Φ := fun B H H1 vx vy o rx ry Q q => by
  obtain ⟨z, z1, z2⟩ := h
  obtain ⟨a, dx, us, rfl, h1, r1⟩ := rx.obj_inv
  obtain ⟨b, dy, ws, rfl, h2, r2⟩ := ry.obj_inv
  refine ⟨a, b, dx, dy, us, ws, rfl, rfl, o.h _ _ h1, o.h _ _ h2, z, B, H, M, _, o, .cons ry (.one rx), z1, fun v d M3 H5 H6 hp k3 e3 r3 => ?_⟩
  obtain ⟨b, rfl, z3⟩ := z2 d M3 hp
  exact ⟨b, r3.bl_inv, q _ _ _ _ _ z3 k3 e3 (.bl _)⟩
theorem rx_l {r r' : R2} {x y : Dt} (h : RX K r x y M Φ) : RX K (fun x y H Q => r x y H Q ∨ r' x y H Q) x y M Φ := fun B H H1 vx vy o rx ry Q q => .inl (h B H H1 vx vy o rx ry Q q)
theorem rx_r {r r' : R2} {x y : Dt} (h : RX K r' x y M Φ) : RX K (fun x y H Q => r x y H Q ∨ r' x y H Q) x y M Φ := fun B H H1 vx vy o rx ry Q q => .inr (h B H H1 vx vy o rx ry Q q)
/-- type(x) of an instance -/
theorem cx_typeO {fs : List (Str × Dt)} (k : Φ (.raw (.ref C)) M) : CX K (fun xs H Q => ∃ a C dx fs, xs = [V.ref a] ∧ H a = some (.ins C dx fs) ∧ Q (.ref C) H) [.obj C fs] M Φ := fun B H H1 vs o r Q q => by
  cases r with
  | cons r rr =>
    cases rr
    obtain ⟨a, dx, us, rfl, h1, r1⟩ := r.obj_inv
    exact ⟨a, C, dx, us, rfl, o.h _ _ h1, q _ _ _ _ _ k o (Ex.refl H) (.raw _)⟩
theorem cx_typeS {x : Str} (k : Φ (.raw (.ty "str")) M) : CX K RZ.rTy4 [.str x] M Φ := fun B H H1 vs o r Q q => by
  cases r with
  | cons r rr =>
    cases rr
    rw [r.str_inv]
    unfold RZ.rTy4
    exact ⟨_, _, rfl, .str x, q _ _ _ _ _ k o (Ex.refl H) (.raw _)⟩
theorem rx_isCls {a b : Addr} (h : a = b) (k : Φ (.bl true) M) : RX K (fun x y H Q => ∃ a b, x = V.ref a ∧ y = V.ref b ∧ (a = b ∨ (PySem.W.makesIn K a = true ∧ PySem.W.makesIn K b = true)) ∧ Q (.bl (decide (a = b))) H) (.raw (.ref a)) (.raw (.ref b)) M Φ := fun B H H1 vx vy o rx ry Q q => by
  subst h
  obtain rfl := rx.raw_inv
  obtain rfl := ry.raw_inv
  exact ⟨a, a, rfl, rfl, .inl rfl, by rw [decide_eq_true rfl]; exact q _ _ _ _ _ k o (Ex.refl H) (.bl _)⟩
theorem rx_isTy {T : String} {m : Addr} (hl : ∃ om, K.lookup m = some om ∧ om.cls ≠ .type "tuple") (k : Φ (.bl false) M) : RX K (ItX.rIsK K false) (.raw (.ty T)) (.raw (.ref m)) M Φ := fun B H H1 vx vy o rx ry Q q => by
  obtain rfl := rx.raw_inv
  obtain rfl := ry.raw_inv
  obtain ⟨om, h1, h2⟩ := hl
  exact ⟨m, om, rfl, h1, h2, .inr ⟨trivial, q _ _ _ _ _ k o (Ex.refl H) (.bl _)⟩⟩
/-- a method by super() and a rest -/
abbrev spToldA (K : PySem.W.Frag) : Sp := SpP K (fun (d : Dt) => [d]) (fun _ => True) (fun _ => .str "unreachable")
theorem told_of {P : Program} {w : World} {mg : Str → Option Value} {base : Heap} {k : Nat} {f : Addr} {te : TE} {dt : α → Dt} {ok : α → Prop} {txt : α → Str} (F : FnR P w K mg base CX0 k f (spSup K D (spToldA K) te)) (hd : ∀ x, ∃ fs, dt x = .obj D fs)
    (h : ∀ x M, ok x → EX K te [some (dt x), none] M (fun y M2 => RX K (rAddA K) (.str "unreachable") y M2 fun z M3 => z = .str (txt x) ∧ M3 = M)) : FnR P w K mg base CX0 k f (SpP K (fun x => [dt x]) ok (fun x => .str (txt x))) :=
  F.imp fun vs H1 Q E ⟨x, B, H, M, ds, o, r, ⟨hds, hok⟩, q⟩ => by
    subst hds
    obtain ⟨fs, hfs⟩ := hd x
    cases r with
    | cons r rr =>
      cases rr
      have r0 := r
      rw [hfs] at r
      obtain ⟨a, dx, us, rfl, h1, r1⟩ := r.obj_inv
      refine ⟨a, dx, us, rfl, o.h _ _ h1, dt x, B, H, M, _, o, .one r0, ⟨rfl, trivial⟩, fun v d M3 H5 H6 ⟨hp, hm⟩ k3 e3 r3 => ?_⟩
      subst hp
      subst hm
      refine h x M3 hok B H5 H6 _ k3 ⟨rfl, fun i d hi => ?_⟩ _ fun y dy M4 H7 H8 hz k4 e4 r4 => ?_
      · match i, hi with
        | 0, hi => cases hi; exact ⟨_, rfl, r0.mono e3⟩
        | 1, hi => cases hi
        | i + 2, hi => cases hi
      · refine hz B H7 H8 v y k4 (r3.mono e4) r4 _ fun z dz M5 H9 H10 ⟨hz1, hz2⟩ k5 e5 r5 => ?_
        subst hz2
        exact q z dz _ H9 H10 ⟨hz1, rfl⟩ k5 ((e3.trans e4).trans e5) r5
end
def Rsn.tag : Rsn → Nat
  | .rs => 0
  | .jc => 1
  | .sc _ => 2
  | .cg _ => 3
abbrev spHoldR (K : PySem.W.Frag) (C RS : Addr) : Sp := SpP K (fun (x : List Pt × List Pt) => [.obj RS [], polyD C x.1, polyD C x.2]) (fun _ => True) (fun _ => .bl false)
def eqO : Rsn → Rsn ⊕ Str → Bool
  | r, .inl s => decide (r = s)
  | _, .inr _ => false
structure TxRs (K : PySem.W.Frag) (mg : Str → Option Value) (RS JC SC CG : Addr) : Prop where
  gR : mg "Reason" = some (.ref RS)
  clR : Cls K RS
  isR : IsC K RS
  bR : Bare0 K RS
  lkR : ∃ om, K.lookup RS = some om ∧ om.cls ≠ .type "tuple"
  nt : mg "type" = none
  kRR : PySem.W.kitOne K (.ref RS) (.ref RS) = some true
  kJR : PySem.W.kitOne K (.ref JC) (.ref RS) = some true
  kSR : PySem.W.kitOne K (.ref SC) (.ref RS) = some true
  kCR : PySem.W.kitOne K (.ref CG) (.ref RS) = some true
  kRJ : PySem.W.kitOne K (.ref RS) (.ref JC) = some false
  kRS : PySem.W.kitOne K (.ref RS) (.ref SC) = some false
  kRC : PySem.W.kitOne K (.ref RS) (.ref CG) = some false
  kJS : PySem.W.kitOne K (.ref JC) (.ref SC) = some false
  kJC : PySem.W.kitOne K (.ref JC) (.ref CG) = some false
  kSC : PySem.W.kitOne K (.ref SC) (.ref CG) = some false
  kTJ : PySem.W.kitOne K (.type "str") (.ref JC) = some false
  kTS : PySem.W.kitOne K (.type "str") (.ref SC) = some false
  kTC : PySem.W.kitOne K (.type "str") (.ref CG) = some false
  kNC : PySem.W.kitOne K (.type "NoneType") (.ref CG) = some false
  sJ : PySem.W.subIn K (.ref JC) (.ref RS) = some true
  sS : PySem.W.subIn K (.ref SC) (.ref RS) = some true
  sC : PySem.W.subIn K (.ref CG) (.ref RS) = some true
  nJ : (Value.ref RS != Value.ref JC) = true
  nS : (Value.ref RS != Value.ref SC) = true
  nC : (Value.ref RS != Value.ref CG) = true
  dRJ : PySem.W.subIn K (.ref RS) (.ref JC) = some false
  dRS : PySem.W.subIn K (.ref RS) (.ref SC) = some false
  dRC : PySem.W.subIn K (.ref RS) (.ref CG) = some false
  dJS : PySem.W.subIn K (.ref JC) (.ref SC) = some false
  dJC : PySem.W.subIn K (.ref JC) (.ref CG) = some false
  dSJ : PySem.W.subIn K (.ref SC) (.ref JC) = some false
  dSC : PySem.W.subIn K (.ref SC) (.ref CG) = some false
  dCJ : PySem.W.subIn K (.ref CG) (.ref JC) = some false
  dCS : PySem.W.subIn K (.ref CG) (.ref SC) = some false
  tR : PySem.W.subIn K (.type "str") (.ref RS) = some false
  tJ : PySem.W.subIn K (.type "str") (.ref JC) = some false
  tS : PySem.W.subIn K (.type "str") (.ref SC) = some false
  tC : PySem.W.subIn K (.type "str") (.ref CG) = some false
theorem nf_of {K : PySem.W.Frag} {C : Addr} {v : Value} (h : PySem.W.subIn K v (.ref C) = some false) : PySem.W.notFirst K C v = true := by
  unfold PySem.W.notFirst
  rw [h]
  simp
theorem nf_self {K : PySem.W.Frag} {C : Addr} : PySem.W.notFirst K C (.ref C) = true := by
  unfold PySem.W.notFirst
  simp
section
variable (K : PySem.W.Frag) (RS JC SC CG : Addr)
def othD : Rsn ⊕ Str → Dt
  | .inl s => s.dt RS JC SC CG
  | .inr y => .str y
abbrev spEqT (t : Nat) : Sp := SpP K (fun (x : Rsn × (Rsn ⊕ Str)) => [x.1.dt RS JC SC CG, othD RS JC SC CG x.2]) (fun x => x.1.tag = t ∧ (t = 0 → ∀ s, x.2 = .inl s → s = .rs)) (fun x => .bl (eqO x.1 x.2))
def rEqRs : R2 := fun x y H Q => rOwnD K RS (spEqT K RS JC SC CG 0) id x y H Q ∨ (rOwnD K JC (spEqT K RS JC SC CG 1) id x y H Q ∨ (rOwnD K SC (spEqT K RS JC SC CG 2) id x y H Q ∨ (rOwnD K CG (spEqT K RS JC SC CG 3) id x y H Q ∨
  (rOwnSub K RS JC (spEqT K RS JC SC CG 1) x y H Q ∨ (rOwnSub K RS SC (spEqT K RS JC SC CG 2) x y H Q ∨ rOwnSub K RS CG (spEqT K RS JC SC CG 3) x y H Q)))))
def rEqSt : R2 := fun x y H Q => rOwnX K RS (spEqT K RS JC SC CG 0) E0 x y H Q ∨ (rOwnX K JC (spEqT K RS JC SC CG 1) E0 x y H Q ∨ (rOwnX K SC (spEqT K RS JC SC CG 2) E0 x y H Q ∨ rOwnX K CG (spEqT K RS JC SC CG 3) E0 x y H Q))
def rNeRs : R2 := fun x y H Q => rOwnD K RS (spEqT K RS JC SC CG 0) not x y H Q ∨ (rOwnD K JC (spEqT K RS JC SC CG 1) not x y H Q ∨ (rOwnD K SC (spEqT K RS JC SC CG 2) not x y H Q ∨ rOwnD K CG (spEqT K RS JC SC CG 3) not x y H Q))
end
section
variable {K : PySem.W.Frag} {mg : Str → Option Value} {RS JC SC CG : Addr} {M : Mm} {Φ : Dt → Mm → Prop}
theorem rx_eqRs (T : TxRs K mg RS JC SC CG) {r s : Rsn} (k : Φ (.bl (decide (r = s))) M) : RX K (rEqRs K RS JC SC CG) (r.dt RS JC SC CG) (s.dt RS JC SC CG) M Φ := by
  have fin : ∀ {t : Nat}, r.tag = t → (t = 0 → s = .rs) → ∃ z : Rsn × (Rsn ⊕ Str), ([r.dt RS JC SC CG, s.dt RS JC SC CG] = [z.1.dt RS JC SC CG, othD RS JC SC CG z.2] ∧ z.1.tag = t ∧ (t = 0 → ∀ s, z.2 = .inl s → s = .rs)) ∧ ∀ (d : Dt) (M' : Mm), (d = .bl (eqO z.1 z.2) ∧ M' = M) → ∃ b, d = .bl b ∧ Φ (.bl (id b)) M' := fun ht h0 => ⟨(r, .inl s), ⟨rfl, ht, fun h s2 e => by cases e; exact h0 h⟩, fun d M' ⟨e1, e2⟩ => ⟨_, e1, by rw [e2]; exact k⟩⟩
  have fin2 : ∀ {t : Nat}, s.tag = t → t ≠ 0 → ∃ z : Rsn × (Rsn ⊕ Str), ([s.dt RS JC SC CG, r.dt RS JC SC CG] = [z.1.dt RS JC SC CG, othD RS JC SC CG z.2] ∧ z.1.tag = t ∧ (t = 0 → ∀ s, z.2 = .inl s → s = .rs)) ∧ ∀ (d : Dt) (M' : Mm), (d = .bl (eqO z.1 z.2) ∧ M' = M) → ∃ b, d = .bl b ∧ Φ (.bl b) M' := fun ht h0 => ⟨(s, .inl r), ⟨rfl, ht, fun h => absurd h h0⟩, fun d M' ⟨e1, e2⟩ => ⟨_, e1, by
    rw [e2]
    show Φ (.bl (decide (s = r))) M
    rw [show decide (s = r) = decide (r = s) from decide_eq_decide.mpr eq_comm]
    exact k⟩⟩
  unfold rEqRs
  cases r with
  | rs =>
    cases s with
    | rs => exact rx_l (rx_ownD nf_self (fin rfl fun _ => rfl))
    | jc => exact rx_r (rx_r (rx_r (rx_r (rx_l (rx_ownS (fin2 rfl (by decide)))))))
    | sc v => exact rx_r (rx_r (rx_r (rx_r (rx_r (rx_l (rx_ownS (fin2 rfl (by decide))))))))
    | cg c => exact rx_r (rx_r (rx_r (rx_r (rx_r (rx_r (rx_ownS (fin2 rfl (by decide))))))))
  | jc =>
    cases s with
    | rs => exact rx_r (rx_l (rx_ownD (nf_of T.dRJ) (fin rfl (fun h => by cases h))))
    | jc => exact rx_r (rx_l (rx_ownD nf_self (fin rfl (fun h => by cases h))))
    | sc v => exact rx_r (rx_l (rx_ownD (nf_of T.dSJ) (fin rfl (fun h => by cases h))))
    | cg c => exact rx_r (rx_l (rx_ownD (nf_of T.dCJ) (fin rfl (fun h => by cases h))))
  | sc w =>
    cases s with
    | rs => exact rx_r (rx_r (rx_l (rx_ownD (nf_of T.dRS) (fin rfl (fun h => by cases h)))))
    | jc => exact rx_r (rx_r (rx_l (rx_ownD (nf_of T.dJS) (fin rfl (fun h => by cases h)))))
    | sc v => exact rx_r (rx_r (rx_l (rx_ownD nf_self (fin rfl (fun h => by cases h)))))
    | cg c => exact rx_r (rx_r (rx_l (rx_ownD (nf_of T.dCS) (fin rfl (fun h => by cases h)))))
  | cg w =>
    cases s with
    | rs => exact rx_r (rx_r (rx_r (rx_l (rx_ownD (nf_of T.dRC) (fin rfl (fun h => by cases h))))))
    | jc => exact rx_r (rx_r (rx_r (rx_l (rx_ownD (nf_of T.dJC) (fin rfl (fun h => by cases h))))))
    | sc v => exact rx_r (rx_r (rx_r (rx_l (rx_ownD (nf_of T.dSC) (fin rfl (fun h => by cases h))))))
    | cg c => exact rx_r (rx_r (rx_r (rx_l (rx_ownD nf_self (fin rfl (fun h => by cases h))))))
theorem rx_eqSt (T : TxRs K mg RS JC SC CG) {r : Rsn} {y : Str} (k : Φ (.bl false) M) : RX K (rEqSt K RS JC SC CG) (r.dt RS JC SC CG) (.str y) M Φ := by
  have fin : ∀ {t : Nat}, r.tag = t → ∃ z : Rsn × (Rsn ⊕ Str), ([r.dt RS JC SC CG, .str y] = [z.1.dt RS JC SC CG, othD RS JC SC CG z.2] ∧ z.1.tag = t ∧ (t = 0 → ∀ s, z.2 = .inl s → s = .rs)) ∧ ∀ (d : Dt) (M' : Mm), (d = .bl (eqO z.1 z.2) ∧ M' = M) → ∃ b, d = .bl b ∧ Φ (.bl b) M' := fun ht => ⟨(r, .inr y), ⟨rfl, ht, fun _ s2 e => by cases e⟩, fun d M' ⟨e1, e2⟩ => ⟨_, e1, by rw [e2]; exact k⟩⟩
  unfold rEqSt
  cases r with
  | rs => exact rx_l (rx_ownX (.str y) (nf_of T.tR) (fin rfl))
  | jc => exact rx_r (rx_l (rx_ownX (.str y) (nf_of T.tJ) (fin rfl)))
  | sc v => exact rx_r (rx_r (rx_l (rx_ownX (.str y) (nf_of T.tS) (fin rfl))))
  | cg c => exact rx_r (rx_r (rx_r (rx_ownX (.str y) (nf_of T.tC) (fin rfl))))
theorem rx_neRs (T : TxRs K mg RS JC SC CG) {r : Rsn} (k : Φ (.bl (!decide (r = .rs))) M) : RX K (rNeRs K RS JC SC CG) (r.dt RS JC SC CG) (Rsn.rs.dt RS JC SC CG) M Φ := by
  have fin : ∀ {t : Nat}, r.tag = t → ∃ z : Rsn × (Rsn ⊕ Str), ([r.dt RS JC SC CG, Rsn.rs.dt RS JC SC CG] = [z.1.dt RS JC SC CG, othD RS JC SC CG z.2] ∧ z.1.tag = t ∧ (t = 0 → ∀ s, z.2 = .inl s → s = .rs)) ∧ ∀ (d : Dt) (M' : Mm), (d = .bl (eqO z.1 z.2) ∧ M' = M) → ∃ b, d = .bl b ∧ Φ (.bl (not b)) M' := fun ht => ⟨(r, .inl .rs), ⟨rfl, ht, fun _ s2 e => by cases e; rfl⟩, fun d M' ⟨e1, e2⟩ => ⟨_, e1, by rw [e2]; exact k⟩⟩
  unfold rNeRs
  cases r with
  | rs => exact rx_l (rx_ownD nf_self (fin rfl))
  | jc => exact rx_r (rx_l (rx_ownD (nf_of T.dRJ) (fin rfl)))
  | sc v => exact rx_r (rx_r (rx_l (rx_ownD (nf_of T.dRS) (fin rfl))))
  | cg c => exact rx_r (rx_r (rx_r (rx_ownD (nf_of T.dRC) (fin rfl))))
end
section
variable (K : PySem.W.Frag)
/-- the words of a reason -/
def Rsn.txt : Rsn → Str
  | .rs => "unreachable"
  | .jc => ("unreachable" : Str) ++ ": different numbers of joints"
  | .sc v => ("unreachable" : Str) ++ ((": stick " : Str) ++ wI v.1 ++ "," ++ wI v.2)
  | .cg c => ("unreachable" : Str) ++ ((": " : Str) ++ wI c.1 ++ "*x + " ++ wI c.2.1 ++ "*y modulo " ++ wI c.2.2)
abbrev spToldJC (JC : Addr) : Sp := SpP K (fun (_ : Unit) => [jcD JC]) (fun _ => True) (fun _ => .str (Rsn.txt .jc))
abbrev spToldSC (SC : Addr) : Sp := SpP K (fun (v : Pt) => [scD SC v]) (fun v => v.1.natAbs < 2 ^ 900 ∧ v.2.natAbs < 2 ^ 900) (fun v => .str (Rsn.txt (.sc v)))
abbrev spToldCG (CG : Addr) : Sp := SpP K (fun (c : Cg) => [cgD CG c]) (fun c => c.1.natAbs < 2 ^ 990 ∧ c.2.1.natAbs < 2 ^ 990 ∧ c.2.2.natAbs < 2 ^ 990) (fun c => .str (Rsn.txt (.cg c)))
end
end Wk
namespace Wk
open PySem PySem.Spec PyProof.Rows L2 Evl
structure MkK (P : Program) (w : World) (K : PySem.W.Frag) (mg : Str → Option Value) (base : Heap) (k : Nat) (C : Addr) (x : Str) (ks : List Str) (sp : Sp) : Prop where
  gl : mg x = some (.ref C)
  ex : ∃ f fd ps, Mk K C f ∧ FnOk P w K mg base CX0 k f fd ps sp ∧ KBn K fd ps 1 ks (fun us ws => us ++ ws) (fun vs zs => vs ++ zs)
theorem vals_app : ∀ {vs zs : List V} {us ws : List Value}, Vals vs us → Vals zs ws → Vals (vs ++ zs) (us ++ ws)
  | _, _, _, _, .nil, r => r
  | _, _, _, _, .cons h t, r => .cons h (vals_app t r)
theorem fun_kbinds {K : PySem.W.Frag} {x qual : Str} {st : Stmt} {f : Addr} {fd : FuncData} {ps ks : List Str} (F : Fun K x qual st f fd)
    (h : ∀ (kV doc pm : Value) (an : Option Addr) (cdv ct : Value) (us ws : List Value), us.length = 1 → ws.length = ks.length → bindArgs (PySem.W.fnOf x qual (defArgs st) (defBody st) (defScope st) .none kV doc pm an cdv ct) ⟨us, ks.zip ws⟩ = pure (ps.zip (us ++ ws))) : KBn K fd ps 1 ks (fun us ws => us ++ ws) (fun vs zs => vs ++ zs) := by
  obtain ⟨oc, od, kV, doc, pm, an, cdv, ct, osl, rfl, lk, hcd⟩ := F.ex
  exact ⟨fun s us ws X l1 l2 => BindsTo.of_eq (h _ _ _ _ _ _ us ws l1 l2), fun r1 r2 => vals_app r1 r2⟩
section
variable {X : Cx} {k j : Nat} {C : Addr} {x : Str} {ks : List Str} {sp : Sp} {p pos : Pos} {kws : List Keyword} {tk : TA}
theorem pe_mkK (c : MkK X.prog X.w X.K X.mg X.base k C x ks sp) (hr : Room j X.A) (hk : k + 1 ≤ j) (hg : Gl X x) (hkw : PK X kws tk)
    (hall : (backToKw pos (keywordEach kws X.env)).all (·.1.isSome) = true := by rfl) (hks : (backToKw pos (keywordEach kws X.env)).filterMap (·.1) = ks := by rfl) (hdb : (x == ("__debug__" : Str)) = false := by decide)
    (hpl : ((backTo pos (starEach [] X.env)).any (·.1) || (backToKw pos (keywordEach kws X.env)).any (·.1.isNone)) = false := by rfl) :
    PE X (.Call (.Name x p) [] kws pos) (tMakeK C 0 ks.length sp (fun vs zs => vs ++ zs) E0 tNil tk) := by
  obtain ⟨f, fd, ps, M, F, B⟩ := c.ex
  exact pe_makeK0 M F (hr.mono hk) hg c.gl B pass0 hkw hall hks hdb hpl
end
section
variable {K : PySem.W.Frag} {ρ : Rho} {M : Mm} {Φ : Dt → Mm → Prop} {t : TA} {E : XK} {C : Addr} {m : Nat} {α : Type} {pre : α → List Dt → Mm → Prop} {post : α → Mm → Dt → Mm → Prop}
theorem ex_makeKW (h : AX K t ρ M (fun xs M1 => xs.length = m ∧ ∀ x, M1 x = none → ∃ y, pre y (.raw (.ref x) :: xs) (put M1 x (.ins C [])) ∧ ∀ d M2, post y (put M1 x (.ins C [])) d M2 → d = .non ∧ Φ (.raw (.ref x)) M2)) :
    EX K (tMakeK C 0 m (SpD K pre post) (fun vs zs => vs ++ zs) E tNil t) ρ M Φ := fun B H H1 σ o s Q q =>
  h B H H1 σ o s _ fun vs xs M' H' H2 z k e r => ⟨rfl, by rw [r.length]; exact z.1, fun x dx hx hdx ne => by
    obtain ⟨y, z1, z2⟩ := z.2 x (k.noMem hx)
    have k1 := k.grow (o := .own x) hdx
    have e1 := Ex.new (o := .own x) (fresh_back k.h hdx)
    have hx1 : upd H2 dx (.own x) x = none := by
      rw [upd_ne ne.symm]
      exact hx
    have k2 := k1.cell (o := .ins C dx []) (c := .ins C []) hx1 ⟨dx, [], upd_same, .nil⟩
    exact ⟨y, B, _, _, _, k2, .cons (.raw _) (r.mono e1), z1, fun v d M3 H5 H6 hp k3 e3 r3 => by
      obtain ⟨rfl, z3⟩ := z2 d M3 hp
      exact ⟨r3.non_inv, q _ _ _ _ _ z3 k3 (e.trans (e1.trans e3)) (.raw _)⟩⟩⟩
end
end Wk
namespace Wk
open PySem PySem.Spec PyProof.Rows L2 Evl
theorem del_put {M : Mm} {x : Addr} {c : Cell} (h : M x = none) : del (put M x c) x = M := by
  funext b
  unfold del put
  by_cases e : b = x
  · rw [if_pos e, e, h]
  · rw [if_neg e, if_neg e]
section
variable {K : PySem.W.Frag} {ρ : Rho} {M : Mm} {Φ : Dt → Mm → Prop} {t : TA} {E : XK} {SC CG : Addr} {m : Nat}
theorem ex_newRS (h : AX K t ρ M (fun xs M1 => ∃ d, xs = [d] ∧ Φ (.obj SC [("stick", d)]) M1)) : EX K (StX.tMakeR SC (spIniS K SC) E t) ρ M Φ := ex_frzI (ex_makeA fun B H H1 σ o s Q q => h B H H1 σ o s Q fun vs ds M' H' H2 ⟨d, e, z⟩ k ex r => q vs ds M' H' H2 (fun x hx => ⟨(x, d), ⟨by rw [e], put_same⟩, fun d2 M2 ⟨e1, e2⟩ => ⟨e1, x, SC, [("stick", d)], rfl, (by subst e2; exact put_same), (by subst e2; rw [put_put, del_put hx]; exact z)⟩⟩) k ex r)
theorem ex_newRC (h : AX K t ρ M (fun xs M1 => ∃ a b m, xs = [a, b, m] ∧ Φ (.obj CG [("a", a), ("b", b), ("modulus", m)]) M1)) : EX K (StX.tMakeR CG (spIniC K CG) E t) ρ M Φ := ex_frzI (ex_makeA fun B H H1 σ o s Q q => h B H H1 σ o s Q fun vs ds M' H' H2 ⟨a, b, m, e, z⟩ k ex r => q vs ds M' H' H2 (fun x hx => ⟨(x, a, b, m), ⟨by rw [e], put_same⟩, fun d2 M2 ⟨e1, e2⟩ => ⟨e1, x, CG, [("a", a), ("b", b), ("modulus", m)], rfl, (by subst e2; exact put_same), (by subst e2; rw [put_put, del_put hx]; exact z)⟩⟩) k ex r)
theorem ex_newRSK (h : AX K t ρ M (fun xs M1 => ∃ d, xs = [d] ∧ Φ (.obj SC [("stick", d)]) M1)) : EX K (tMakeK SC 0 1 (spIniS K SC) (fun vs zs => vs ++ zs) E tNil t) ρ M Φ := ex_frzI (ex_makeKW fun B H H1 σ o s Q q => h B H H1 σ o s Q fun vs ds M' H' H2 ⟨d, e, z⟩ k ex r => q vs ds M' H' H2 ⟨by rw [e] <;> rfl, fun x hx => ⟨(x, d), ⟨by rw [e], put_same⟩, fun d2 M2 ⟨e1, e2⟩ => ⟨e1, x, SC, [("stick", d)], rfl, (by subst e2; exact put_same), (by subst e2; rw [put_put, del_put hx]; exact z)⟩⟩⟩ k ex r)
theorem ex_newRCK (h : AX K t ρ M (fun xs M1 => ∃ a b m, xs = [a, b, m] ∧ Φ (.obj CG [("a", a), ("b", b), ("modulus", m)]) M1)) : EX K (tMakeK CG 0 3 (spIniC K CG) (fun vs zs => vs ++ zs) E tNil t) ρ M Φ := ex_frzI (ex_makeKW fun B H H1 σ o s Q q => h B H H1 σ o s Q fun vs ds M' H' H2 ⟨a, b, m, e, z⟩ k ex r => q vs ds M' H' H2 ⟨by rw [e] <;> rfl, fun x hx => ⟨(x, a, b, m), ⟨by rw [e], put_same⟩, fun d2 M2 ⟨e1, e2⟩ => ⟨e1, x, CG, [("a", a), ("b", b), ("modulus", m)], rfl, (by subst e2; exact put_same), (by subst e2; rw [put_put, del_put hx]; exact z)⟩⟩⟩ k ex r)
theorem rx_add_clC {a : Addr} {xs ys : List Dt} (hm : M a = some (.lst xs)) (hl : xs.length + ys.length ≤ sizeLine) (z : ∀ b, M b = none → Φ (.raw (.ref b)) (put M b (.lst (xs ++ ys)))) : RX K (rAddA K) (.raw (.ref a)) (.lst ys) M Φ := fun B H H1 vx vy o rx ry Q q => by
  obtain ⟨b, ws, rfl, h2, r2⟩ := ry.lst_inv
  obtain ⟨m1, m2, us, h1, r1⟩ := o.m a _ hm
  refine .inr (.inr (.inr ⟨a, b, us, ws, rx.raw_inv, rfl, h1, o.h _ _ h2, by rw [r1.length, r2.length]; exact hl, fun p hp => ?_⟩))
  exact q _ _ _ H _ (z p (o.noMem hp)) (o.cell hp ⟨_, upd_same, r1.append r2⟩) (Ex.refl H) (.raw _)
end
theorem rem_van {c : Cg} {u v : Pt} (h : 0 ≤ c.2.2) (z : remF c u = remF c v) : vanF c (subP u v) = true := by
  rw [vanF_iff, valF_sub]
  unfold remF at z
  by_cases m : 0 < c.2.2
  · rw [if_pos m, if_pos m] at z
    exact Int.dvd_of_emod_eq_zero (Int.emod_eq_emod_iff_emod_sub_eq_zero.mp z)
  · have e : c.2.2 = 0 := by omega
    rw [if_neg m, if_neg m] at z
    rw [e, Int.zero_dvd]
    omega
theorem rem_zero {c : Cg} {v : Pt} (h : 0 ≤ c.2.2) (z : vanF c v = true) : remF c v = 0 := by
  rw [vanF_iff] at z
  unfold remF
  by_cases m : 0 < c.2.2
  · rw [if_pos m]
    exact Int.emod_eq_zero_of_dvd z
  · have e : c.2.2 = 0 := by omega
    rw [if_neg m]
    rw [e, Int.zero_dvd] at z
    exact z
theorem hold_mm {c : Cg} {ps qs : List Pt} {m1 m2 : Int} (h0 : 0 ≤ c.2.2) (l0 : 0 < (sticksP ps).length) (h1 : m1 ∈ (sticksP ps).map (remF c)) (h2 : ∀ y ∈ (sticksP ps).map (remF c), y ≤ m1) (h3 : m2 ∈ (sticksP ps).map (remF c)) (h4 : ∀ y ∈ (sticksP ps).map (remF c), m2 ≤ y) :
    holdC c ps qs = (decide (m1 = m2) && decide (remF c (subP (ptD qs 0) (ptD ps 0)) ≠ 0)) := by
  have e1 : (diffP (sticksP ps)).all (vanF c) = decide (m1 = m2) := by
    rw [Bool.eq_iff_iff, decide_eq_true_iff]
    constructor
    · intro h
      have van : ∀ s ∈ sticksP ps, vanF c (subP s (ptD (sticksP ps) 0)) = true := fun s hs => by
        have m : subP s (ptD (sticksP ps) 0) ∈ (0, 0) :: diffP (sticksP ps) := by
          rw [← diffs_all l0]
          exact List.mem_map.mpr ⟨s, hs, rfl⟩
        rcases List.mem_cons.mp m with e | m
        · rw [e, vanF_iff]
          show _ ∣ c.1 * 0 + c.2.1 * 0
          simp
        · exact List.all_eq_true.mp h _ m
      obtain ⟨s, hs, rfl⟩ := List.mem_map.mp h1
      obtain ⟨u, hu, rfl⟩ := List.mem_map.mp h3
      rw [rem_eq h0 (van s hs), rem_eq h0 (van u hu)]
    · intro e
      subst e
      have all : ∀ s ∈ sticksP ps, remF c s = m1 := fun s hs => by
        have a := h2 _ (List.mem_map.mpr ⟨s, hs, rfl⟩)
        have b := h4 _ (List.mem_map.mpr ⟨s, hs, rfl⟩)
        omega
      refine List.all_eq_true.mpr fun v hv => ?_
      have m : v ∈ (0, 0) :: diffP (sticksP ps) := List.mem_cons_of_mem _ hv
      rw [← diffs_all l0] at m
      obtain ⟨s, hs, rfl⟩ := List.mem_map.mp m
      refine rem_van h0 ?_
      rw [all s hs, all _ (ptD_mem l0)]
  have e2 : (!vanF c (subP (ptD qs 0) (ptD ps 0))) = decide (remF c (subP (ptD qs 0) (ptD ps 0)) ≠ 0) := by
    cases z : vanF c (subP (ptD qs 0) (ptD ps 0)) with
    | true => rw [rem_zero h0 z] <;> rfl
    | false => rw [decide_eq_true (rem_ne h0 z)] <;> rfl
  unfold holdC
  rw [e1, e2]
def Rsn.key : Rsn → Dt
  | .rs => .tup [.lst [.bl false, .bl false, .bl false], .tup []]
  | .jc => .tup [.lst [.bl true, .bl false, .bl false], .tup []]
  | .sc v => .tup [.lst [.bl false, .bl true, .bl false], P2 v]
  | .cg c => .tup [.lst [.bl false, .bl false, .bl true], .tup [.int c.1, .int c.2.1, .int c.2.2]]
theorem Rsn.key_plain (r : Rsn) : plain 60 r.key = true := by cases r <;> rfl
theorem key_eq (r s : Rsn) : eqB r.key s.key = decide (r = s) := by
  cases r with
  | rs => cases s <;> rfl
  | jc => cases s <;> rfl
  | sc v =>
    cases s with
    | sc u =>
      show (true && (PyData.eqv (toP (P2 v)) (toP (P2 u)) && true)) = _
      rw [eqv_p2]
      by_cases e : v = u
      · rw [e] <;> simp
      · rw [decide_eq_false e, decide_eq_false (fun h => by cases h; exact e rfl)] <;> rfl
    | rs => rfl
    | jc => rfl
    | cg c => rfl
  | cg c =>
    cases s with
    | cg d =>
      have h := eqvAll_ints [c.1, c.2.1, c.2.2] [d.1, d.2.1, d.2.2]
      show (true && (PyData.eqvAll (toPs ([c.1, c.2.1, c.2.2].map Dt.int)) (toPs ([d.1, d.2.1, d.2.2].map Dt.int)) && true)) = _
      rw [h]
      by_cases e : c = d
      · rw [e] <;> simp
      · rw [decide_eq_false (fun h => e (by
          obtain ⟨c1, c2, c3⟩ := c
          obtain ⟨d1, d2, d3⟩ := d
          simp at h
          rw [h.1, h.2.1, h.2.2])), decide_eq_false (fun h => e (Rsn.cg.inj h))] <;> rfl
    | rs => rfl
    | jc => rfl
    | sc v => rfl
section
variable (K : PySem.W.Frag) (C RS JC SC CG : Addr)
abbrev spDueR : Sp := SpP K (fun (x : Rsn × List Pt × List Pt) => [x.1.dt RS JC SC CG, Pts x.2.1, Pts x.2.2]) (fun x => x.1.ok ∧ PolyB x.2.1 ∧ PolyB x.2.2) (fun x => .bl (x.1.holds x.2.1 x.2.2))
abbrev spTextR : Sp := SpP K (fun (x : Rsn) => [x.dt RS JC SC CG]) (fun x => x.ok) (fun x => .str x.txt)
abbrev spKeyR : Sp := SpP K (fun (x : Rsn) => [x.dt RS JC SC CG]) (fun _ => True) (fun x => x.key)
abbrev spSomeR : Sp := SpD K (fun (x : Addr × List Pt × List Pt × Int) ds M => ds = [.raw (.ref x.1), Pts x.2.1, Pts x.2.2.1] ∧ (∃ c, M x.1 = some c ∧ IsSrc x.2.2.2 c) ∧ PolyB x.2.1 ∧ PolyB x.2.2.1 ∧ x.2.2.2 ≤ 2 ^ 30)
  (fun x M d M' => ∃ rs c', d = .lst ((Rsn.rs :: rs).map (Rsn.dt RS JC SC CG)) ∧ (∀ r ∈ rs, r.ok) ∧ rs.length ≤ 30 ∧ M' = put M x.1 c' ∧ IsSrc (x.2.2.2 + 30) c')
end
theorem Rsn.cgok {c : Cg} (h : (Rsn.cg c).ok) : CgOk c := by
  have w : (2 : Nat) ^ 990 < 2 ^ 2000 := Nat.pow_lt_pow_right (by decide) (by decide)
  exact ⟨Nat.lt_trans h.1 w, Nat.lt_trans h.2.1 w, Nat.lt_trans h.2.2.1 w, h.2.2.2⟩
/-- the words, in one row -/
theorem txt_sc (v : Pt) : (Rsn.sc v).txt = ("unreachable: stick " : Str) ++ wI v.1 ++ "," ++ wI v.2 := by
  have e : ("unreachable: stick " : Str) = ("unreachable" : Str) ++ (": stick " : Str) := by decide +kernel
  rw [e]
  unfold Rsn.txt
  simp only [PySem.Str.append_assoc]
theorem txt_cg (c : Cg) : (Rsn.cg c).txt = ("unreachable: " : Str) ++ (wI c.1 ++ "*x + " ++ wI c.2.1 ++ "*y modulo " ++ wI c.2.2) := by
  have e : ("unreachable: " : Str) = ("unreachable" : Str) ++ (": " : Str) := by decide +kernel
  rw [e]
  unfold Rsn.txt
  simp only [PySem.Str.append_assoc]
theorem txt_jc : Rsn.jc.txt = ("unreachable: different numbers of joints" : Str) := by
  unfold Rsn.txt
  decide +kernel
theorem put_id {M : Mm} {a : Addr} {c : Cell} (h : M a = some c) : put M a c = M := by
  funext b
  unfold put
  by_cases e : b = a
  · rw [if_pos e, e, h]
  · rw [if_neg e]
theorem cx_isiNo {K : PySem.W.Frag} {M : Mm} {Φ : Dt → Mm → Prop} {D : Addr} {b : Bool} (e : PySem.W.kitOne K (.type "NoneType") (.ref D) = some b) (k : Φ (.bl b) M) : CX K (rIsi K) [.non, .raw (.ref D)] M Φ := fun B H H1 vs o r Q q => by
  cases r with
  | cons r rr =>
    cases rr with
    | cons r2 rr =>
      cases rr
      obtain rfl := r2.raw_inv
      rw [r.non_inv]
      exact ⟨_, _, .type "NoneType", .ref D, b, rfl, .own D, .base .non, e, q _ _ _ _ _ k o (Ex.refl H) (.bl b)⟩
theorem stick_ok {ps : List Pt} (hp : PolyB ps) {v : Pt} (hv : v ∈ sticksP ps) : (Rsn.sc v).ok := by
  have z := hp.bs v hv
  have p49 : (2 : Int) ^ 49 = 562949953421312 := by decide
  have w : 562949953421312 < 2 ^ 900 := by decide
  rw [p49] at z
  exact ⟨Nat.lt_of_le_of_lt (show v.1.natAbs ≤ 562949953421312 by omega) w, Nat.lt_of_le_of_lt (show v.2.natAbs ≤ 562949953421312 by omega) w⟩
theorem small_ok {a b m : Int} (ha : a.natAbs ≤ 9) (hb : b.natAbs ≤ 9) (h0 : 0 ≤ m) (h1 : m ≤ 9) : (Rsn.cg (a, b, m)).ok := by
  have w : 9 < 2 ^ 990 := by decide
  exact ⟨Nat.lt_of_le_of_lt ha w, Nat.lt_of_le_of_lt hb w, Nat.lt_of_le_of_lt (show m.natAbs ≤ 9 by omega) w, h0⟩
theorem res3 {JC SC CG : Addr} {ps qs : List Pt} {r : Dt} (h : ResR JC SC CG ps qs r) (hp : PolyB ps) :
    r = .non ∨ r = jcD JC ∨ (∃ m, r = scD SC m) ∨ ∃ c : Cg, r = cgD CG c ∧ c.1.natAbs < 2 ^ 989 ∧ c.2.1.natAbs < 2 ^ 989 ∧ c.2.2.natAbs < 2 ^ 989 ∧ 0 ≤ c.2.2 := by
  have n := hp.num
  have s := hp.sc
  have w50 : (2 : Nat) ^ 50 < 2 ^ 989 := Nat.pow_lt_pow_right (by decide) (by decide)
  have w900 : (2 : Nat) ^ 900 < 2 ^ 989 := Nat.pow_lt_pow_right (by decide) (by decide)
  have w950 : (2 : Nat) ^ 950 < 2 ^ 989 := Nat.pow_lt_pow_right (by decide) (by decide)
  cases h with
  | len e => exact .inr (.inl rfl)
  | stk e hm _ => exact .inr (.inr (.inl ⟨_, rfl⟩))
  | last e hd =>
    unfold lastD
    split
    · refine .inr (.inr (.inr ⟨_, rfl, ?_, ?_, ?_, hp.okA.m0⟩))
      · exact (Nat.one_lt_two_pow (by decide) : 1 < 2 ^ 989)
      · exact (Nat.two_pow_pos 989 : 0 < 2 ^ 989)
      · exact Nat.lt_of_le_of_lt n.1 w50
    · split
      · refine .inr (.inr (.inr ⟨_, rfl, ?_, ?_, ?_, hp.okB.m0⟩))
        · show (-(at0 (basF (diffP (sticksP ps))).1 1)).natAbs < _
          rw [Int.natAbs_neg]
          exact Nat.lt_of_le_of_lt n.2.1 w900
        · exact Nat.lt_of_le_of_lt s.1 w50
        · show (_ * _ : Int).natAbs < _
          rw [Int.natAbs_mul]
          refine Nat.lt_of_le_of_lt (Nat.mul_le_mul s.1 n.2.2) ?_
          rw [← Nat.pow_add]
          exact w950
      · exact .inl rfl
section
variable {K : PySem.W.Frag} {mg : Str → Option Value} {C RS JC SC CG : Addr} {ρ : Rho} {M : Mm} {Φ : Dt → Mm → Prop} {t : TA} {tv : TE} {E : XK} {ps qs : List Pt} {r : Rsn}
theorem ex_told4 (hr : r.ok) (h : EX K tv ρ M (fun d M1 => d = r.dt RS JC SC CG ∧ Φ (.str r.txt) M1)) :
    EX K (tEither (tMeth RS "told" (spToldA K) [] E tv tNil) (tEither (tMeth JC "told" (spToldJC K JC) [] E tv tNil) (tEither (tMeth SC "told" (spToldSC K SC) [] E tv tNil) (tMeth CG "told" (spToldCG K CG) [] E tv tNil)))) ρ M Φ := by
  cases r with
  | rs => exact ex_eitherL (ex_methP (h.mono fun d M1 ⟨e, z⟩ => ⟨[], e, rfl, ax_nil ⟨_, rfl, trivial, z⟩⟩))
  | jc => exact ex_eitherR (ex_eitherL (ex_methP (h.mono fun d M1 ⟨e, z⟩ => ⟨[], e, rfl, ax_nil ⟨(), rfl, trivial, z⟩⟩)))
  | sc v => exact ex_eitherR (ex_eitherR (ex_eitherL (ex_methP (h.mono fun d M1 ⟨e, z⟩ => ⟨_, e, rfl, ax_nil ⟨v, rfl, hr, z⟩⟩))))
  | cg c => exact ex_eitherR (ex_eitherR (ex_eitherR (ex_methP (h.mono fun d M1 ⟨e, z⟩ => ⟨_, e, rfl, ax_nil ⟨c, rfl, ⟨hr.1, hr.2.1, hr.2.2.1⟩, z⟩⟩))))
theorem ex_hold4 (hr : r.ok) (hp : PolyB ps) (hq : PolyB qs) (h : EX K tv ρ M (fun d M1 => d = r.dt RS JC SC CG ∧ AX K t ρ M1 (fun ds M2 => ds = [polyD C ps, polyD C qs] ∧ Φ (.bl (r.holds ps qs)) M2))) :
    EX K (tEither (tMeth RS "holds" (spHoldR K C RS) [] E tv t) (tEither (tMeth JC "holds" (spHoldJ K C JC) [] E tv t) (tEither (tMeth SC "holds" (spHoldS K C SC) [] E tv t) (tMeth CG "holds" (spHoldC K C CG) [] E tv t)))) ρ M Φ := by
  have l1 : ps.length ≤ 1000 := Nat.le_trans hp.l8 (by decide)
  have l2 : qs.length ≤ 1000 := Nat.le_trans hq.l8 (by decide)
  cases r with
  | rs => exact ex_eitherL (ex_methP (h.mono fun d M1 ⟨e, z⟩ => ⟨[], e, rfl, fun B H H1 σ o s Q q => z B H H1 σ o s Q fun vs ds M2 H' H2 ⟨e2, z2⟩ => q vs ds M2 H' H2 ⟨(ps, qs), by rw [e2] <;> rfl, trivial, z2⟩⟩))
  | jc => exact ex_eitherR (ex_eitherL (ex_methP (h.mono fun d M1 ⟨e, z⟩ => ⟨[], e, rfl, fun B H H1 σ o s Q q => z B H H1 σ o s Q fun vs ds M2 H' H2 ⟨e2, z2⟩ => q vs ds M2 H' H2 ⟨(ps, qs), by rw [e2] <;> rfl, ⟨l1, l2⟩, z2⟩⟩)))
  | sc v => exact ex_eitherR (ex_eitherR (ex_eitherL (ex_methP (h.mono fun d M1 ⟨e, z⟩ => ⟨_, e, rfl, fun B H H1 σ o s Q q => z B H H1 σ o s Q fun vs ds M2 H' H2 ⟨e2, z2⟩ => q vs ds M2 H' H2 ⟨(v, ps, qs), by rw [e2] <;> rfl, ⟨l1, l2⟩, z2⟩⟩))))
  | cg c => exact ex_eitherR (ex_eitherR (ex_eitherR (ex_methP (h.mono fun d M1 ⟨e, z⟩ => ⟨_, e, rfl, fun B H H1 σ o s Q q => z B H H1 σ o s Q fun vs ds M2 H' H2 ⟨e2, z2⟩ => q vs ds M2 H' H2 ⟨(c, ps, qs), by rw [e2] <;> rfl, ⟨Rsn.cgok hr, hp, hq⟩, z2⟩⟩))))
theorem cx_isRs (T : TxRs K mg RS JC SC CG) (T2 : TxR K mg JC SC CG) (k : Φ (.bl true) M) : CX K (rIsi K) [r.dt RS JC SC CG, .raw (.ref RS)] M Φ := by
  cases r with
  | rs => exact cx_isi T.isR T.kRR k
  | jc => exact cx_isi T2.isJ T.kJR k
  | sc v => exact cx_isi T2.isS T.kSR k
  | cg c => exact cx_isi T2.isC T.kCR k
end
theorem lk_of {K : PySem.W.Frag} {C : Addr} (h : PySem.W.typeIn K (.ref C) = some (.type "type")) : ∃ om, K.lookup C = some om ∧ om.cls ≠ .type "tuple" := by
  have h2 : (K.lookup C).map (·.cls) = some (.type "type") := h
  cases z : K.lookup C with
  | none => rw [z] at h2; cases h2
  | some om =>
    rw [z] at h2
    refine ⟨om, rfl, fun e => ?_⟩
    have e2 : om.cls = .type "type" := Option.some.inj h2
    rw [e2] at e
    exact absurd e (by decide)
end Wk
namespace Wk
open PySem L2 Evl
local macro_rules | `(tactic| walk_at "w1") => `(tactic| first
  | ((with_reducible refine' ex_var ?hv ?_); (case hv => rfl))
  | ((with_reducible refine' rx_ix_tup ?hv ?_); (case hv => rfl))
  | ((with_reducible refine' rx_ix_lst ?hv ?_); (case hv => rfl))
  | ((with_reducible refine' gx_tup ?hv ?_); (case hv => rfl))
  | ((with_reducible refine' rx_ix_cell ?hm ?hv ?_); (case hm => first | assumption | exact put_same); (case hv => rfl))
  | ((with_reducible refine' cx_len_cell ?hm ?_); (case hm => first | assumption | exact put_same))
  | ((with_reducible refine' rx_Ii ?hc ?_); (case hc => first | assumption | exact ⟨by decide, by decide +kernel⟩ | (show (0 : Int) < _; omega) | (show (0 : Int) < _; decide)))
  | ((with_reducible refine' rx_mul_int ?hc ?_); (case hc => first | assumption | exact cmul_l (by decide) (by decide) | exact cmul_r (by decide) (by decide)))
  | with_reducible refine ex_int ?_
  | with_reducible refine ex_str ?_
  | with_reducible refine ex_bl ?_
  | with_reducible refine ex_non ?_
  | with_reducible refine ex_raw ?_
  | with_reducible refine ex_op ?_
  | with_reducible refine ex_un ?_
  | with_reducible refine ex_cb ?_
  | with_reducible refine ex_tup ?_
  | with_reducible refine ex_sl ?_
  | with_reducible refine ox_none ?_
  | with_reducible refine ox_some ?_
  | with_reducible refine ax_nil ?_
  | with_reducible refine ax_cons ?_
  | with_reducible refine ex_if ?_
  | with_reducible refine ex_andV ?_
  | with_reducible refine ex_orV ?_
  | with_reducible refine ex_notV ?_
  | with_reducible refine ex_m0 ?_
  | with_reducible refine ex_m1 ?_
  | with_reducible refine tx_test ?_
  | with_reducible refine tx_B ?_
  | with_reducible refine tx_and ?_
  | with_reducible refine tx_or ?_
  | with_reducible refine tx_not ?_
  | with_reducible refine tx_yes ?_
  | with_reducible refine sx_seq ?_
  | with_reducible refine sx_set ?_
  | with_reducible refine sx_ret ?_
  | with_reducible refine sx_drop ?_
  | with_reducible refine sx_next ?_
  | with_reducible refine sx_if ?_
  | with_reducible refine sx_retN ?_
  | with_reducible refine sx_asg ?_
  | with_reducible refine sx_par ?_
  | with_reducible refine gx_name ?_
  | with_reducible refine gxs_cons ?_
  | with_reducible refine gxs_nil ?_
  | with_reducible refine rx_add_int ?_
  | with_reducible refine rx_I0i ?_
  | with_reducible refine rx_I0b ?_
  | with_reducible refine rx_eq_int ?_
  | with_reducible refine rx_ne_int ?_
  | with_reducible refine rx_eq_str ?_
  | with_reducible refine rx_ne_str ?_
  | with_reducible refine rx_eq_bl ?_
  | with_reducible refine rx_ne_bl ?_
  | with_reducible refine lx_tup ?_
  | with_reducible refine lx_lst ?_
  | with_reducible refine cx_len_tup ?_
  | with_reducible refine cx_len_lst ?_
  | with_reducible refine cx_len_frl ?_
  | with_reducible refine cx_max2 ?_
  | with_reducible refine ux_neg ?_
  | with_reducible refine cx_list_lst ?_
  | with_reducible refine cx_tuple_lst ?_
  | with_reducible refine cx_tuple_tup ?_
  | with_reducible refine mx_isdigit ?_
  | with_reducible refine mx_startswith ?_
  | with_reducible refine ix_any ?_
  | with_reducible refine And.intro (Nat.le_of_ble_eq_true rfl) ?_
  | refine Exists.intro _ (And.intro rfl ?_))
local macro_rules | `(tactic| walk_at "w") => `(tactic| repeat (walk_at "w1"))
section
variable {P : Program} {w : World} {K : PySem.W.Frag} {mg : Str → Option Value} {base : Heap} {C WE BP BT NC BJ S BW TM TF BS UN NP UF DP DF J UR SC JC CG RB RS FJ f g : Addr} {fd : FuncData}
theorem ok__law_some_reasons {f : Addr} {fd : FuncData} (F : Fun K "_law_some_reasons" "_law_some_reasons" s__law_some_reasons f fd) (T : Tx K mg C) (TRs : TxRs K mg RS JC SC CG) (TR : TxR K mg JC SC CG) (c__law_sticks : Cal P w K mg base 1 "_law_sticks" (spSticksL K)) (c__law_draw : Cal P w K mg base 1 "_law_draw" (spDraw K)) (c__law_made : Cal P w K mg base 5 "_law_made" (spMade K C)) (c_reason_against : Cal P w K mg base 7 "reason_against" (spReason K C JC SC CG)) (c_iniS : MkR P w K mg base 1 SC "StickCount" (spIniS K SC)) (c_iniC : MkR P w K mg base 1 CG "Congruence" (spIniC K CG)) (c_iniSK : MkK P w K mg base 1 SC "StickCount" ["stick"] (spIniS K SC)) (c_iniCK : MkK P w K mg base 1 CG "Congruence" ["a", "b", "modulus"] (spIniC K CG)) : FnOk P w K mg base CX0 9 f fd ["source", "start", "goal"] (spSomeR K RS JC SC CG) := by
  refine F.ok sc__law_some_reasons (spD_len (n := 3) (fun x ds M h => by rw [h.1] <;> rfl)) (fun cdv A outer s H vs Q E hr h => ⟨_, (pss_cons (ps_set (i := 3) sc__law_some_reasons.nd rfl (Or.inl rfl) (pe_lst (pa_cons (pe_bare TRs.bR TRs.gR rfl) (pa_cons (pe_bare TR.bJ TR.gJ rfl) (pa_cons (pe_mkA c_iniS hr (by decide) rfl (pa_cons (pe_tup (pa_cons pe_int (pa_cons pe_int pa_nil))) pa_nil)) (pa_cons (pe_mkK c_iniSK hr (by decide) rfl (pk_cons (pe_tup (pa_cons pe_int (pa_cons pe_int pa_nil))) pk_nil)) (pa_cons (pe_mkA c_iniC hr (by decide) rfl (pa_cons pe_int (pa_cons pe_int (pa_cons pe_int pa_nil)))) pa_nil))))))) (pss_cons (ps_set (i := 3) sc__law_some_reasons.nd rfl (Or.inl rfl) (pe_op op_addA (pv 3) (pe_lst (pa_cons (pe_mkA c_iniS hr (by decide) rfl (pa_cons (pe_ix ix_seq (pe_c c__law_sticks hr (by decide) rfl (pa_cons (pv 1) pa_nil)) pe_int (fun _ _ => rfl)) pa_nil)) (pa_cons (pe_mkA c_iniS hr (by decide) rfl (pa_cons (pe_ix ix_seq (pe_c c__law_sticks hr (by decide) rfl (pa_cons (pv 2) pa_nil)) (pe_un un_neg pe_int) (fun _ _ => rfl)) pa_nil)) (pa_cons (pe_mkA c_iniC hr (by decide) rfl (pa_cons pe_int (pa_cons pe_int (pa_cons pe_int pa_nil)))) pa_nil)))))) (pss_cons (ps_for PassesOwn.never rfl (pi_range1 rfl T.n_range (pa_cons pe_int pa_nil)) (pg_name (i := 4) sc__law_some_reasons.nd rfl (Or.inl rfl)) (pss_cons (ps_par (i := 5) (j := 6) (by rfl) sc__law_some_reasons.nd rfl rfl (by decide) rfl rfl (pa_cons (pe_op op_sub (pe_c c__law_draw hr (by decide) rfl (pa_cons (pv 0) (pa_cons pe_int pa_nil))) pe_int) (pa_cons (pe_op op_sub (pe_c c__law_draw hr (by decide) rfl (pa_cons (pv 0) (pa_cons pe_int pa_nil))) pe_int) pa_nil)) (by rfl)) (pss_one (ps_expr (pe_bm PySem.F.plainAttrs_list PySem.F.slot_list_append PySem.F.type_list_append mt_append (pv 3) (pa_cons (pe_mkA c_iniC hr (by decide) rfl (pa_cons (pv 5) (pa_cons (pv 6) (pa_cons (pe_ix ix_seq (pe_lst (pa_cons pe_int (pa_cons pe_int (pa_cons pe_int (pa_cons pe_int (pa_cons pe_int (pa_cons pe_int (pa_cons pe_int pa_nil)))))))) (pe_c c__law_draw hr (by decide) rfl (pa_cons (pv 0) (pa_cons pe_int pa_nil))) (fun _ _ => rfl)) pa_nil)))) pa_nil)))))) (pss_cons (ps_set (i := 7) sc__law_some_reasons.nd rfl (Or.inl rfl) (pe_c c_reason_against hr (by decide) rfl (pa_cons (pe_c c__law_made hr (by decide) rfl (pa_cons (pv 1) pa_nil)) (pa_cons (pe_c c__law_made hr (by decide) rfl (pa_cons (pv 2) pa_nil)) pa_nil)))) (pss_cons (ps_if (pt_val (pe_callB (call_isiKK (K := K) rfl) (by rfl) T.n_isinstance (by decide +kernel) (pa_cons (pv 7) (pa_cons (pe_glob (v := .ref CG) rfl TR.gC rfl) pa_nil)))) (pss_cons (ps_set (i := 3) sc__law_some_reasons.nd rfl (Or.inl rfl) (pe_op op_addA (pv 3) (pe_lst (pa_cons (pv 7) (pa_cons (pe_mkA c_iniC hr (by decide) rfl (pa_cons (pe_op op_mulA pe_int (pe_fld (pv 7) rfl)) (pa_cons (pe_op op_mulA pe_int (pe_fld (pv 7) rfl)) (pa_cons (pe_fld (pv 7) rfl) pa_nil)))) (pa_cons (pe_mkA c_iniC hr (by decide) rfl (pa_cons (pe_fld (pv 7) rfl) (pa_cons (pe_fld (pv 7) rfl) (pa_cons pe_int pa_nil)))) pa_nil)))))) (pss_one (ps_expr (pe_bm PySem.F.plainAttrs_list PySem.F.slot_list_append PySem.F.type_list_append mt_append (pv 3) (pa_cons (pe_mkK c_iniCK hr (by decide) rfl (pk_cons (pe_fld (pv 7) rfl) (pk_cons (pe_fld (pv 7) rfl) (pk_cons (pe_op op_mulA pe_int (pe_fld (pv 7) rfl)) pk_nil)))) pa_nil))))) pss_nil) (pss_one (ps_ret (pv 3)))))))), enter h ?_⟩)
  try dsimp only [cxOf, Cx.nox, Cx.wish]
  rintro ⟨a, ps, qs, n⟩ ds M ⟨rfl, ⟨c0, hc0, hs0⟩, hp, hq, hn⟩
  dsimp only at *
  have lp : 0 < (sticksP ps).length := by rw [sticksP_length]; exact hp.pos
  have lq : 0 < (sticksP qs).length := by rw [sticksP_length]; exact hq.pos
  refine sx_seq (sx_set (ex_lst (ax_cons (ex_bare (ax_cons (ex_bare (ax_cons (ex_newRS (ax_cons (ex_tup (ax_cons (ex_int (ax_cons (ex_int (ax_nil ⟨Nat.le_of_ble_eq_true rfl, ax_nil ⟨_, rfl, ax_cons (ex_newRSK (ax_cons (ex_tup (ax_cons (ex_int (ax_cons (ex_int (ax_nil ⟨Nat.le_of_ble_eq_true rfl, ax_nil ⟨_, rfl, ax_cons (ex_newRC (ax_cons (ex_int (ax_cons (ex_int (ax_cons (ex_int (ax_nil ⟨_, _, _, rfl, ax_nil ⟨Nat.le_of_ble_eq_true rfl, ?_⟩⟩))))))))⟩⟩))))))))⟩⟩)))))))))))))))
  refine sx_seq (sx_set (ex_op (ex_var rfl (ex_lst (ax_cons (ex_newRS (ax_cons (ex_op (ex_callP (ax_cons (ex_var rfl (ax_nil ⟨ps, rfl, hp.l8, ex_int (rx_ix_tup (pt_at lp) (ax_nil ⟨_, rfl, ax_cons (ex_newRS (ax_cons (ex_op (ex_callP (ax_cons (ex_var rfl (ax_nil ⟨qs, rfl, hq.l8, ex_un (ex_int (ux_neg (rx_ix_tup (atI_lst lq) (ax_nil ⟨_, rfl, ax_cons (ex_newRC (ax_cons (ex_int (ax_cons (ex_int (ax_cons (ex_int (ax_nil ⟨_, _, _, rfl, ax_nil ⟨Nat.le_of_ble_eq_true rfl, rx_add_lstC ?_ fun b hb => ?_⟩⟩))))))))⟩))))⟩)))))))⟩))⟩))))))))))))
  · exact Nat.le_of_ble_eq_true rfl
  show SX K _ [some (.raw (.ref a)), some (Pts ps), some (Pts qs), some (.raw (.ref b)), none, none, none, none] (put M b (.lst ((Rsn.rs :: [.jc, .sc (1, 2), .sc (0, 0), .cg (1, 0, 0), .sc (ptD (sticksP ps) 0), .sc (ptD (sticksP qs) ((sticksP qs).length - 1)), .cg (0, 0, 0)]).map (Rsn.dt RS JC SC CG)))) _
  have hab : a ≠ b := fun e => by
    rw [← e, hc0] at hb
    cases hb
  have ok0 : ∀ r ∈ [Rsn.jc, .sc (1, 2), .sc (0, 0), .cg (1, 0, 0), .sc (ptD (sticksP ps) 0), .sc (ptD (sticksP qs) ((sticksP qs).length - 1)), .cg (0, 0, 0)], r.ok := fun r hr => by
    have w : 2 < 2 ^ 900 := by decide
    have w0 : 0 < 2 ^ 900 := by decide
    have w1 : 1 < 2 ^ 900 := by decide
    rcases List.mem_cons.mp hr with rfl | hr
    · trivial
    rcases List.mem_cons.mp hr with rfl | hr
    · exact ⟨w1, w⟩
    rcases List.mem_cons.mp hr with rfl | hr
    · exact ⟨w0, w0⟩
    rcases List.mem_cons.mp hr with rfl | hr
    · exact small_ok (by decide) (by decide) (by decide) (by decide)
    rcases List.mem_cons.mp hr with rfl | hr
    · exact stick_ok hp (ptD_mem lp)
    rcases List.mem_cons.mp hr with rfl | hr
    · exact stick_ok hq (ptD_mem (by omega))
    · rw [List.mem_singleton.mp hr]
      exact small_ok (by decide) (by decide) (by decide) (by decide)
  obtain ⟨rs0, er, lr0, hr0⟩ : ∃ rs : List Rsn, [Rsn.jc, .sc (1, 2), .sc (0, 0), .cg (1, 0, 0), .sc (ptD (sticksP ps) 0), .sc (ptD (sticksP qs) ((sticksP qs).length - 1)), .cg (0, 0, 0)] = rs ∧ rs.length = 7 ∧ ∀ r ∈ rs, r.ok := ⟨_, rfl, rfl, ok0⟩
  rw [er]
  clear er ok0
  have hd : M = put M a c0 := (put_id hc0).symm
  refine sx_seqc (fun ρ' M' => ∃ (rs : List Rsn) (x4 x5 x6 : Option Dt) (c' : Cell), ρ' = [some (.raw (.ref a)), some (Pts ps), some (Pts qs), some (.raw (.ref b)), x4, x5, x6, none] ∧ M' = put (put M a c') b (.lst ((Rsn.rs :: rs).map (Rsn.dt RS JC SC CG))) ∧ rs.length ≤ 13 ∧ (∀ r ∈ rs, r.ok) ∧ IsSrc (n + 18) c') (sx_for (ix_rng1 (ax_cons (ex_int (ax_nil ⟨6, rfl, by decide, by decide, fun i ρ' M' => ∃ (rs : List Rsn) (x4 x5 x6 : Option Dt) (c' : Cell), ρ' = [some (.raw (.ref a)), some (Pts ps), some (Pts qs), some (.raw (.ref b)), x4, x5, x6, none] ∧ M' = put (put M a c') b (.lst ((Rsn.rs :: rs).map (Rsn.dt RS JC SC CG))) ∧ rs.length = 7 + i ∧ (∀ r ∈ rs, r.ok) ∧ IsSrc (n + 3 * i) c', ?_, fun _ _ _ _ _ => trivial, ?_, ?_⟩))))) ?_
  · exact ⟨rs0, none, none, none, c0, rfl, by rw [← hd], lr0, hr0, hs0.mono (by omega)⟩
  · rintro i d ρ' M' hi ⟨rs, x4, x5, x6, c', rfl, rfl, lr, hr, hc'⟩
    obtain ⟨hi2, rfl⟩ := rng_get hi
    have hi6 : i < 6 := by
      have : (6 : Int).toNat = 6 := rfl
      omega
    have H1 : ∀ {c' : Cell} {k : Int} {L : Cell}, IsSrc k c' → ∃ c, put (put M a c') b L a = some c ∧ IsSrc k c := fun h => ⟨_, by rw [put_ne hab, put_same], h⟩
    have p30 : (2 : Int) ^ 30 = 1073741824 := by decide
    have p40 : (2 : Int) ^ 40 = 1099511627776 := by decide
    rw [p30] at hn
    refine gx_name ?_
    refine sx_seq (sx_par (ax_cons (ex_op (ex_draw (n := n + 3 * i) (b := 9) (a := a) rfl (H1 hc') (by decide) (by decide) (by omega) (by walk_at "w"; exact ⟨rfl, rfl⟩) fun r1 c1 r10 r11 hc1 => ?_))))
    rw [put_under hab]
    refine ex_int (rx_I0i (ax_cons (ex_op (ex_draw (n := n + 3 * i + 1) (b := 9) (a := a) rfl (H1 hc1) (by decide) (by decide) (by omega) (by walk_at "w"; exact ⟨rfl, rfl⟩) fun r2 c2 r20 r21 hc2 => ?_))))
    rw [put_under hab]
    refine ex_int (rx_I0i (ax_nil ⟨_, _, rfl, ?_⟩))
    refine sx_drop (ex_append (a := b) (ex_var rfl ⟨rfl, _, put_same, ax_cons (ex_newRC (ax_cons (ex_var rfl (ax_cons (ex_var rfl (ax_cons (ex_op (ex_lst ?_))))))))⟩))
    walk_at "w"
    refine ex_draw (n := n + 3 * i + 1 + 1) (b := 7) (a := a) rfl (H1 hc2) (by decide) (by decide) (by omega) (by walk_at "w"; exact ⟨rfl, rfl⟩) fun way c3 w0 w1 hc3 => ?_
    rw [put_under hab]
    have hsz : ∃ s : Int, atI [Dt.int 0, .int 1, .int 2, .int 3, .int 4, .int 6, .int 9] way = some (.int s) ∧ 0 ≤ s ∧ s ≤ 9 := by
      have e : way = 0 ∨ way = 1 ∨ way = 2 ∨ way = 3 ∨ way = 4 ∨ way = 5 ∨ way = 6 := by omega
      rcases e with rfl | rfl | rfl | rfl | rfl | rfl | rfl
      · exact ⟨0, rfl, by decide, by decide⟩
      · exact ⟨1, rfl, by decide, by decide⟩
      · exact ⟨2, rfl, by decide, by decide⟩
      · exact ⟨3, rfl, by decide, by decide⟩
      · exact ⟨4, rfl, by decide, by decide⟩
      · exact ⟨6, rfl, by decide, by decide⟩
      · exact ⟨9, rfl, by decide, by decide⟩
    obtain ⟨s, hs, s0, s1⟩ := hsz
    refine rx_ix_lst hs (ax_nil ⟨_, _, _, rfl, ax_nil ⟨_, _, rfl, put_same, ?_, rs ++ [.cg (r1 - 4, r2 - 4, s)], _, _, _, c3, rfl, ?_, ?_, ?_, hc3.mono (by omega)⟩⟩)
    · rw [List.length_map, List.length_cons, lr]
      exact Nat.lt_of_le_of_lt (show 7 + i + 1 ≤ 14 by omega) (by decide)
    · rw [put_put, ← List.cons_append, List.map_append] <;> rfl
    · rw [List.length_append, lr] <;> rfl
    · intro r hm
      rcases List.mem_append.mp hm with hm | hm
      · exact hr r hm
      · rw [List.mem_singleton.mp hm]
        exact small_ok (by omega) (by omega) s0 s1
  · rintro ρ' M' ⟨rs, x4, x5, x6, c', rfl, rfl, lr, hr, hc'⟩
    rw [rng_len] at lr hc'
    have e6 : (6 : Int).toNat = 6 := rfl
    exact ⟨rs, x4, x5, x6, c', rfl, rfl, by omega, hr, hc'.mono (by omega)⟩
  rintro ρ' M' ⟨rs, x4, x5, x6, c', rfl, rfl, lr, hr, hc'⟩
  have hbn : put M a c' b = none := by
    rw [put_ne hab.symm]
    exact hb
  clear hr0 lr0 hd hs0
  have sm : ∀ {rs : List Pt}, PolyB rs → Small rs := fun h => Small.of h.bp (by decide)
  refine sx_seq (sx_set (ex_call (ax_cons (ex_callP (ax_cons (ex_var rfl (ax_nil ⟨(ps, true), rfl, ⟨hp.l3, hp.l8, sm hp⟩, ax_cons (ex_callP (ax_cons (ex_var rfl (ax_nil ⟨(qs, true), rfl, ⟨hq.l3, hq.l8, sm hq⟩, ax_nil ⟨(ps, qs), ⟨rfl, hp, hq⟩, ?_⟩⟩))))⟩)))))))
  rintro told M2 ⟨rfl, hres⟩
  have fin : ∀ {rs : List Rsn} {b : Addr} {x4 x5 x6 x7 : Option Dt}, put M a c' b = none → rs.length ≤ 30 → (∀ r ∈ rs, r.ok) → SX K (tRet (tVar 3)) [some (.raw (.ref a)), some (Pts ps), some (Pts qs), some (.raw (.ref b)), x4, x5, x6, x7] (put (put M a c') b (.lst ((Rsn.rs :: rs).map (Rsn.dt RS JC SC CG)))) (retE fun d M' => ∃ rs c', d = (.lst ((Rsn.rs :: rs).map (Rsn.dt RS JC SC CG))) ∧ (∀ r ∈ rs, r.ok) ∧ rs.length ≤ 30 ∧ M' = put M a c' ∧ IsSrc (n + 30) c') := fun {rs b x4 x5 x6 x7} hbn l30 hok => by
    refine sx_ret (ex_frz (ex_var rfl ⟨b, _, rfl, put_same, ?_⟩))
    rw [del_put hbn]
    exact ⟨_, Sub.refl _, rs, c', rfl, hok, l30, rfl, hc'.mono (by omega)⟩
  rcases res3 hres hp with rfl | rfl | ⟨m, rfl⟩ | ⟨c, rfl, b1, b2, b3, c0⟩
  · refine sx_seq (sx_if ?_)
    walk_at "w"
    refine cx_isiNo TRs.kNC ?_
    walk_at "w"
    exact ⟨(fun h => by cases h), fun _ => sx_next (fin hbn (by omega) hr)⟩
  · refine sx_seq (sx_if ?_)
    walk_at "w"
    refine cx_isi TR.isJ TRs.kJC ?_
    walk_at "w"
    exact ⟨(fun h => by cases h), fun _ => sx_next (fin hbn (by omega) hr)⟩
  · refine sx_seq (sx_if ?_)
    walk_at "w"
    refine cx_isi TR.isS TRs.kSC ?_
    walk_at "w"
    exact ⟨(fun h => by cases h), fun _ => sx_next (fin hbn (by omega) hr)⟩
  · refine sx_seq (sx_if ?_)
    walk_at "w"
    refine cx_isi TR.isC TR.kC ?_
    walk_at "w"
    refine ⟨fun _ => ?_, (fun h => by cases h)⟩
    have w990 : (2 : Nat) ^ 989 < 2 ^ 990 := Nat.pow_lt_pow_right (by decide) (by decide)
    have w1 : 1 < 2 ^ 990 := Nat.one_lt_two_pow (by decide)
    have dbl : ∀ {i : Int}, i.natAbs < 2 ^ 989 → (2 * i).natAbs < 2 ^ 990 := fun {i} h => by
      rw [Int.natAbs_mul, show (2 : Nat) ^ 990 = 2 * 2 ^ 989 from Nat.pow_succ']
      exact Nat.mul_lt_mul_of_pos_left h (by decide)
    have b1 : c.1.natAbs < 2 ^ 989 := b1
    refine sx_seq (sx_set (ex_op (ex_var rfl (ex_lst (ax_cons (ex_var rfl (ax_cons (ex_newRC (ax_cons (ex_op (ex_int (ex_fld (ex_var rfl ⟨CG, _, _, rfl, TR.clC, TR.nA, rfl, rx_mul_int (cmul_l (by decide) (by decide)) (ax_cons (ex_op (ex_int (ex_fld (ex_var rfl ⟨CG, _, _, rfl, TR.clC, TR.nB, rfl, rx_mul_int (cmul_l (by decide) (by decide)) (ax_cons (ex_fld (ex_var rfl ⟨CG, _, _, rfl, TR.clC, TR.nM, rfl, ax_nil ⟨_, _, _, rfl, ax_cons (ex_newRC (ax_cons (ex_fld (ex_var rfl ⟨CG, _, _, rfl, TR.clC, TR.nA, rfl, ax_cons (ex_fld (ex_var rfl ⟨CG, _, _, rfl, TR.clC, TR.nB, rfl, ax_cons (ex_int (ax_nil ⟨_, _, _, rfl, ax_nil ⟨Nat.le_of_ble_eq_true rfl, rx_add_clC put_same ?_ fun b1' hb1 => ?_⟩⟩))⟩))⟩))))⟩⟩)))⟩)))))⟩)))))))))))))
    · rw [List.length_map, List.length_cons]
      exact Nat.le_trans (show rs.length + 1 + 3 ≤ 20 by omega) (by decide)
    have hb1' : put M a c' b1' = none := by
      by_cases e : b1' = b
      · rw [e, put_same] at hb1
        cases hb1
      · rw [put_ne e] at hb1
        exact hb1
    refine sx_sub (M' := put (put M a c') b1' (.lst ((Rsn.rs :: rs).map (Rsn.dt RS JC SC CG) ++ [cgD CG c, cgD CG (2 * c.1, 2 * c.2.1, c.2.2), cgD CG (c.1, c.2.1, 1)]))) (fun x d e => ?_) ?_
    · by_cases e1 : x = b1'
      · rw [e1, put_same] at e ⊢
        exact e
      · rw [put_ne e1] at e ⊢
        by_cases e2 : x = b
        · rw [e2, hbn] at e
          cases e
        · rw [put_ne e2]
          exact e
    refine sx_drop (ex_append (a := b1') (ex_var rfl ⟨rfl, _, put_same, ax_cons (ex_newRCK (ax_cons (ex_fld (ex_var rfl ⟨CG, _, _, rfl, TR.clC, TR.nA, rfl, ax_cons (ex_fld (ex_var rfl ⟨CG, _, _, rfl, TR.clC, TR.nB, rfl, ax_cons (ex_op (ex_int (ex_fld (ex_var rfl ⟨CG, _, _, rfl, TR.clC, TR.nM, rfl, rx_mul_int (cmul_l (by decide) (by decide)) (ax_nil ⟨_, _, _, rfl, ax_nil ⟨_, _, rfl, put_same, ?_, ?_⟩⟩)⟩))))⟩))⟩))))⟩))
    · rw [List.length_append, List.length_map, List.length_cons]
      exact Nat.lt_of_le_of_lt (show rs.length + 1 + 3 ≤ 20 by omega) (by decide)
    rw [put_put]
    have el : ((Rsn.rs :: rs).map (Rsn.dt RS JC SC CG) ++ [cgD CG c, cgD CG (2 * c.1, 2 * c.2.1, c.2.2), cgD CG (c.1, c.2.1, 1)]) ++ [cgD CG (c.1, c.2.1, 2 * c.2.2)] = (Rsn.rs :: (rs ++ [.cg c, .cg (2 * c.1, 2 * c.2.1, c.2.2), .cg (c.1, c.2.1, 1), .cg (c.1, c.2.1, 2 * c.2.2)])).map (Rsn.dt RS JC SC CG) := by
      rw [← List.cons_append, List.map_append, List.append_assoc] <;> rfl
    refine (congrArg (fun L => SX K _ _ (put (put M a c') b1' (.lst L)) _) el).mpr (fin hb1' (by rw [List.length_append]; show rs.length + 4 ≤ 30; omega) fun r hm => ?_)
    rcases List.mem_append.mp hm with hm | hm
    · exact hr r hm
    rcases List.mem_cons.mp hm with rfl | hm
    · exact ⟨Nat.lt_trans b1 w990, Nat.lt_trans b2 w990, Nat.lt_trans b3 w990, c0⟩
    rcases List.mem_cons.mp hm with rfl | hm
    · exact ⟨dbl b1, dbl b2, Nat.lt_trans b3 w990, c0⟩
    rcases List.mem_cons.mp hm with rfl | hm
    · exact ⟨Nat.lt_trans b1 w990, Nat.lt_trans b2 w990, w1, (by decide : (0 : Int) ≤ 1)⟩
    · rw [List.mem_singleton.mp hm]
      exact ⟨Nat.lt_trans b1 w990, Nat.lt_trans b2 w990, dbl b3, (by dsimp only; omega)⟩
end
end Wk
namespace Wk
open PySem L2 Evl
local macro_rules | `(tactic| walk_at "w1") => `(tactic| first
  | ((with_reducible refine' ex_var ?hv ?_); (case hv => rfl))
  | ((with_reducible refine' rx_ix_tup ?hv ?_); (case hv => rfl))
  | ((with_reducible refine' rx_ix_lst ?hv ?_); (case hv => rfl))
  | ((with_reducible refine' gx_tup ?hv ?_); (case hv => rfl))
  | ((with_reducible refine' rx_ix_cell ?hm ?hv ?_); (case hm => first | assumption | exact put_same); (case hv => rfl))
  | ((with_reducible refine' cx_len_cell ?hm ?_); (case hm => first | assumption | exact put_same))
  | ((with_reducible refine' rx_Ii ?hc ?_); (case hc => first | assumption | exact ⟨by decide, by decide +kernel⟩ | (show (0 : Int) < _; omega) | (show (0 : Int) < _; decide)))
  | ((with_reducible refine' rx_mul_int ?hc ?_); (case hc => first | assumption | exact cmul_l (by decide) (by decide) | exact cmul_r (by decide) (by decide)))
  | with_reducible refine ex_int ?_
  | with_reducible refine ex_str ?_
  | with_reducible refine ex_bl ?_
  | with_reducible refine ex_non ?_
  | with_reducible refine ex_raw ?_
  | with_reducible refine ex_op ?_
  | with_reducible refine ex_un ?_
  | with_reducible refine ex_cb ?_
  | with_reducible refine ex_tup ?_
  | with_reducible refine ex_sl ?_
  | with_reducible refine ox_none ?_
  | with_reducible refine ox_some ?_
  | with_reducible refine ax_nil ?_
  | with_reducible refine ax_cons ?_
  | with_reducible refine ex_if ?_
  | with_reducible refine ex_andV ?_
  | with_reducible refine ex_orV ?_
  | with_reducible refine ex_notV ?_
  | with_reducible refine ex_m0 ?_
  | with_reducible refine ex_m1 ?_
  | with_reducible refine tx_test ?_
  | with_reducible refine tx_B ?_
  | with_reducible refine tx_and ?_
  | with_reducible refine tx_or ?_
  | with_reducible refine tx_not ?_
  | with_reducible refine tx_yes ?_
  | with_reducible refine sx_seq ?_
  | with_reducible refine sx_set ?_
  | with_reducible refine sx_ret ?_
  | with_reducible refine sx_drop ?_
  | with_reducible refine sx_next ?_
  | with_reducible refine sx_if ?_
  | with_reducible refine sx_retN ?_
  | with_reducible refine sx_asg ?_
  | with_reducible refine sx_par ?_
  | with_reducible refine gx_name ?_
  | with_reducible refine gxs_cons ?_
  | with_reducible refine gxs_nil ?_
  | with_reducible refine rx_add_int ?_
  | with_reducible refine rx_I0i ?_
  | with_reducible refine rx_I0b ?_
  | with_reducible refine rx_eq_int ?_
  | with_reducible refine rx_ne_int ?_
  | with_reducible refine rx_eq_str ?_
  | with_reducible refine rx_ne_str ?_
  | with_reducible refine rx_eq_bl ?_
  | with_reducible refine rx_ne_bl ?_
  | with_reducible refine lx_tup ?_
  | with_reducible refine lx_lst ?_
  | with_reducible refine cx_len_tup ?_
  | with_reducible refine cx_len_lst ?_
  | with_reducible refine cx_len_frl ?_
  | with_reducible refine cx_max2 ?_
  | with_reducible refine ux_neg ?_
  | with_reducible refine cx_list_lst ?_
  | with_reducible refine cx_tuple_lst ?_
  | with_reducible refine cx_tuple_tup ?_
  | with_reducible refine mx_isdigit ?_
  | with_reducible refine mx_startswith ?_
  | with_reducible refine ix_any ?_
  | with_reducible refine And.intro (Nat.le_of_ble_eq_true rfl) ?_
  | refine Exists.intro _ (And.intro rfl ?_))
local macro_rules | `(tactic| walk_at "w") => `(tactic| repeat (walk_at "w1"))
section
variable {P : Program} {w : World} {K : PySem.W.Frag} {mg : Str → Option Value} {base : Heap} {C WE BP BT NC BJ S BW TM TF BS UN NP UF DP DF J UR SC JC CG RB RS FJ f g : Addr} {fd : FuncData}
theorem ok_sticksLF {f : Addr} {fd : FuncData} (F : Fun K "_law_sticks" "_law_sticks" s__law_sticks f fd) (T : Tx K mg C)  : FnOk P w K mg base CX0 1 f fd ["points"] (spSticksLF K) := by
  refine F.ok sc__law_sticks (spD_len (n := 1) (fun x ds M h => by rw [h.1] <;> rfl)) (fun cdv A outer s H vs Q E hr h => ⟨_, (pss_cons (ps_set (i := 1) sc__law_sticks.nd rfl (Or.inl rfl) (pe_op op_addA (pe_slice sl_any (pv 0) (po_some pe_int) po_none) (pe_slice sl_any (pv 0) po_none (po_some pe_int)))) (pss_one (ps_ret (pe_callTy call_tupF (by rfl) T.n_tuple (by decide +kernel) (pa_cons (pe_lc (own := [("here", 2), ("after", 3)]) rfl sc__law_sticks.nd (RZ.pi_zipA rfl T.n_zip (pa_cons (pv 0) (pa_cons (pv 1) pa_nil))) (blkOk_by (own := [("here", 2), ("after", 3)]) (N := ["points", "following", "here", "after"]) (sc := defScope s__law_sticks) (by decide +kernel)) (fun _ _ _ _ _ => (pg_tupK K 2 (by rfl) (pgs_cons (pg_name (i := 2) sc__law_sticks.nd rfl (Or.inl rfl)) (pgs_cons (pg_name (i := 3) sc__law_sticks.nd rfl (Or.inl rfl)) pgs_nil)) (by rfl))) (fun _ _ _ _ _ => pts_nil) (fun _ _ _ _ _ => (pe_tup (pa_cons (pe_op op_sub (pe_ix (ix_seqK K (by rfl)) (pv 3) pe_int (fun _ _ => rfl)) (pe_ix (ix_seqK K (by rfl)) (pv 2) pe_int (fun _ _ => rfl))) (pa_cons (pe_op op_sub (pe_ix (ix_seqK K (by rfl)) (pv 3) pe_int (fun _ _ => rfl)) (pe_ix (ix_seqK K (by rfl)) (pv 2) pe_int (fun _ _ => rfl))) pa_nil))))) pa_nil))))), enter h ?_⟩)
  try dsimp only [cxOf, Cx.nox, Cx.wish]
  rintro ps ds M ⟨rfl, h8⟩
  walk_at "w"
  refine rx_add_tup ?_ ?_
  · have h1 : (cutD (ps.map P2) (some 1) none).length ≤ 1000 := Nat.le_trans (cutD_length _ _ _) (by rw [List.length_map]; omega)
    have h2 : (cutD (ps.map P2) none (some 1)).length ≤ 1000 := Nat.le_trans (cutD_length _ _ _) (by rw [List.length_map]; omega)
    exact Nat.le_trans (Nat.add_le_add h1 h2) (by decide)
  rw [cutD_rot, ← rot_map]
  refine sx_ret (ex_cb (ax_cons (ex_lcm (by exact gw_tup (gw_cons (gw_name (by decide)) (gw_cons (gw_name (by decide)) gw_nil gm_name) gm_name)) (ix_zip ?_))))
  walk_at "w"
  refine ⟨_, _, .inl rfl, ?_⟩
  refine ⟨?_, trivial, (sticksP ps).map P2, ?_, ?_, ?_⟩
  · rw [zipD_len, List.length_map]
    exact Nat.lt_of_le_of_lt (Nat.min_le_left _ _) (Nat.lt_of_le_of_lt h8 (by decide))
  · rw [zipD_len, List.length_map, List.length_map, List.length_map, sticksP_length, rot_length, Nat.min_self]
  · intro i d z hi hz
    obtain ⟨x, y, hx, hy, rfl⟩ := zipD_inv hi
    rw [List.getElem?_map] at hx hy
    obtain ⟨p, hp, rfl⟩ := Option.map_eq_some_iff.mp hx
    obtain ⟨q, hq, rfl⟩ := Option.map_eq_some_iff.mp hy
    rw [List.getElem?_map, sticksP_get hp hq] at hz
    cases hz
    walk_at "w"
    exact ⟨rfl, rfl⟩
  · walk_at "w"
    exact cx_tupF (ret_pure rfl (Sub.refl M))
end
end Wk
namespace Wk
open PySem L2 Evl
local macro_rules | `(tactic| walk_at "w1") => `(tactic| first
  | ((with_reducible refine' ex_var ?hv ?_); (case hv => rfl))
  | ((with_reducible refine' rx_ix_tup ?hv ?_); (case hv => rfl))
  | ((with_reducible refine' rx_ix_lst ?hv ?_); (case hv => rfl))
  | ((with_reducible refine' gx_tup ?hv ?_); (case hv => rfl))
  | ((with_reducible refine' rx_ix_cell ?hm ?hv ?_); (case hm => first | assumption | exact put_same); (case hv => rfl))
  | ((with_reducible refine' cx_len_cell ?hm ?_); (case hm => first | assumption | exact put_same))
  | ((with_reducible refine' rx_Ii ?hc ?_); (case hc => first | assumption | exact ⟨by decide, by decide +kernel⟩ | (show (0 : Int) < _; omega) | (show (0 : Int) < _; decide)))
  | ((with_reducible refine' rx_mul_int ?hc ?_); (case hc => first | assumption | exact cmul_l (by decide) (by decide) | exact cmul_r (by decide) (by decide)))
  | with_reducible refine ex_int ?_
  | with_reducible refine ex_str ?_
  | with_reducible refine ex_bl ?_
  | with_reducible refine ex_non ?_
  | with_reducible refine ex_raw ?_
  | with_reducible refine ex_op ?_
  | with_reducible refine ex_un ?_
  | with_reducible refine ex_cb ?_
  | with_reducible refine ex_tup ?_
  | with_reducible refine ex_sl ?_
  | with_reducible refine ox_none ?_
  | with_reducible refine ox_some ?_
  | with_reducible refine ax_nil ?_
  | with_reducible refine ax_cons ?_
  | with_reducible refine ex_if ?_
  | with_reducible refine ex_andV ?_
  | with_reducible refine ex_orV ?_
  | with_reducible refine ex_notV ?_
  | with_reducible refine ex_m0 ?_
  | with_reducible refine ex_m1 ?_
  | with_reducible refine tx_test ?_
  | with_reducible refine tx_B ?_
  | with_reducible refine tx_and ?_
  | with_reducible refine tx_or ?_
  | with_reducible refine tx_not ?_
  | with_reducible refine tx_yes ?_
  | with_reducible refine sx_seq ?_
  | with_reducible refine sx_set ?_
  | with_reducible refine sx_ret ?_
  | with_reducible refine sx_drop ?_
  | with_reducible refine sx_next ?_
  | with_reducible refine sx_if ?_
  | with_reducible refine sx_retN ?_
  | with_reducible refine sx_asg ?_
  | with_reducible refine sx_par ?_
  | with_reducible refine gx_name ?_
  | with_reducible refine gxs_cons ?_
  | with_reducible refine gxs_nil ?_
  | with_reducible refine rx_add_int ?_
  | with_reducible refine rx_I0i ?_
  | with_reducible refine rx_I0b ?_
  | with_reducible refine rx_eq_int ?_
  | with_reducible refine rx_ne_int ?_
  | with_reducible refine rx_eq_str ?_
  | with_reducible refine rx_ne_str ?_
  | with_reducible refine rx_eq_bl ?_
  | with_reducible refine rx_ne_bl ?_
  | with_reducible refine lx_tup ?_
  | with_reducible refine lx_lst ?_
  | with_reducible refine cx_len_tup ?_
  | with_reducible refine cx_len_lst ?_
  | with_reducible refine cx_len_frl ?_
  | with_reducible refine cx_max2 ?_
  | with_reducible refine ux_neg ?_
  | with_reducible refine cx_list_lst ?_
  | with_reducible refine cx_tuple_lst ?_
  | with_reducible refine cx_tuple_tup ?_
  | with_reducible refine mx_isdigit ?_
  | with_reducible refine mx_startswith ?_
  | with_reducible refine ix_any ?_
  | with_reducible refine And.intro (Nat.le_of_ble_eq_true rfl) ?_
  | refine Exists.intro _ (And.intro rfl ?_))
local macro_rules | `(tactic| walk_at "w") => `(tactic| repeat (walk_at "w1"))
section
variable {P : Program} {w : World} {K : PySem.W.Frag} {mg : Str → Option Value} {base : Heap} {C WE BP BT NC BJ S BW TM TF BS UN NP UF DP DF J UR SC JC CG RB RS FJ f g : Addr} {fd : FuncData}
theorem ok__law_due {f : Addr} {fd : FuncData} (F : Fun K "_law_due" "_law_due" s__law_due f fd) (T : Tx K mg C) (TRs : TxRs K mg RS JC SC CG) (TR : TxR K mg JC SC CG) (TR2 : TxR2 K JC SC CG) (c__law_sticks : Cal P w K mg base 1 "_law_sticks" (spSticksL K)) (c_sticksLF : Cal P w K mg base 1 "_law_sticks" (spSticksLF K)) : FnOk P w K mg base CX0 2 f fd ["reason", "start", "goal"] (spDueR K RS JC SC CG) := by
  refine F.ok sc__law_due (spD_len (n := 3) (fun x ds M h => by rw [h.1] <;> rfl)) (fun cdv A outer s H vs Q E hr h => ⟨_, (pss_cons (ps_if (pt_val (pe_callB (call_isiKK (K := K) rfl) (by rfl) T.n_isinstance (by decide +kernel) (pa_cons (pv 0) (pa_cons (pe_glob (v := .ref JC) rfl TR.gJ rfl) pa_nil)))) (pss_one (ps_ret (pe_cmpR (op_neA hr.units) (pe_callB call_lenA (by rfl) T.n_len (by decide +kernel) (pa_cons (pv 1) pa_nil)) (pe_callB call_lenA (by rfl) T.n_len (by decide +kernel) (pa_cons (pv 2) pa_nil)) (nomark _)))) pss_nil) (pss_cons (ps_if (pt_val (pe_callB (call_isiKK (K := K) rfl) (by rfl) T.n_isinstance (by decide +kernel) (pa_cons (pv 0) (pa_cons (pe_glob (v := .ref SC) rfl TR.gS rfl) pa_nil)))) (pss_one (ps_ret (pe_cmpR (op_neA hr.units) (pe_tm PySem.F.plainAttrs_tuple PySem.F.slot_tuple_count PySem.F.type_tuple_count (mt_tcountK K (by rfl) (u65 hr)) (pe_c c_sticksLF hr (by decide) rfl (pa_cons (pv 1) pa_nil)) (pa_cons (pe_fld (pv 0) rfl) pa_nil)) (pe_tm PySem.F.plainAttrs_tuple PySem.F.slot_tuple_count PySem.F.type_tuple_count (mt_tcountK K (by rfl) (u65 hr)) (pe_c c_sticksLF hr (by decide) rfl (pa_cons (pv 2) pa_nil)) (pa_cons (pe_fld (pv 0) rfl) pa_nil)) (nomark _)))) pss_nil) (pss_cons (ps_if (pt_not (pt_val (pe_callB (call_isiKK (K := K) rfl) (by rfl) T.n_isinstance (by decide +kernel) (pa_cons (pv 0) (pa_cons (pe_glob (v := .ref CG) rfl TR.gC rfl) pa_nil))))) (pss_one (ps_ret pe_bl)) pss_nil) (pss_cons (ps_setLc (i := 3) (own := [("x", 4), ("y", 5)]) rfl sc__law_due.nd rfl rfl (sw_true rfl rfl rfl (by decide +kernel)) (pi_any (pe_c c__law_sticks hr (by decide) rfl (pa_cons (pv 1) pa_nil))) (blkOk_by (own := [("x", 4), ("y", 5)]) (N := ["reason", "start", "goal", "values", "x", "y", "motion", "value"]) (sc := defScope s__law_due) (by decide +kernel)) (fun _ _ _ _ _ => (pg_tupK K 2 (by rfl) (pgs_cons (pg_name (i := 4) sc__law_due.nd rfl (Or.inl rfl)) (pgs_cons (pg_name (i := 5) sc__law_due.nd rfl (Or.inl rfl)) pgs_nil)) (by rfl))) (fun _ _ _ _ _ => pts_nil) (fun _ _ _ _ _ => (pe_op (op_addK K (by rfl)) (pe_op (op_mulK K (by rfl)) (pe_fldK K (by rfl) (pv 0) rfl) (pv 4)) (pe_op (op_mulK K (by rfl)) (pe_fldK K (by rfl) (pv 0) rfl) (pv 5))))) (pss_cons (ps_par (i := 4) (j := 5) (by rfl) sc__law_due.nd rfl rfl (by decide) rfl rfl (pa_cons (pe_op op_sub (pe_ix ix_seq (pe_ix ix_seq (pv 2) pe_int (fun _ _ => rfl)) pe_int (fun _ _ => rfl)) (pe_ix ix_seq (pe_ix ix_seq (pv 1) pe_int (fun _ _ => rfl)) pe_int (fun _ _ => rfl))) (pa_cons (pe_op op_sub (pe_ix ix_seq (pe_ix ix_seq (pv 2) pe_int (fun _ _ => rfl)) pe_int (fun _ _ => rfl)) (pe_ix ix_seq (pe_ix ix_seq (pv 1) pe_int (fun _ _ => rfl)) pe_int (fun _ _ => rfl))) pa_nil)) (by rfl)) (pss_cons (ps_set (i := 6) sc__law_due.nd rfl (Or.inl rfl) (pe_op op_addA (pe_op op_mulA (pe_fld (pv 0) rfl) (pv 4)) (pe_op op_mulA (pe_fld (pv 0) rfl) (pv 5)))) (pss_cons (ps_if (pt_cmpR op_gt (pe_fld (pv 0) rfl) pe_int (nomark _)) (pss_cons (ps_setLc (i := 3) (own := [("value", 7)]) rfl sc__law_due.nd rfl rfl (sw_true rfl rfl rfl (by decide +kernel)) (pi_any (pv 3)) (blkOk_by (own := [("value", 7)]) (N := ["reason", "start", "goal", "values", "x", "y", "motion", "value"]) (sc := defScope s__law_due) (by decide +kernel)) (fun _ _ _ _ _ => (pg_name (i := 7) sc__law_due.nd rfl (Or.inl rfl))) (fun _ _ _ _ _ => pts_nil) (fun _ _ _ _ _ => (pe_op op_mod (pv 7) (pe_fldK K (by rfl) (pv 0) rfl)))) (pss_one (ps_set (i := 6) sc__law_due.nd rfl (Or.inl rfl) (pe_op op_mod (pv 6) (pe_fld (pv 0) rfl))))) pss_nil) (pss_one (ps_ret (pe_and (pe_cmpR (op_eqA hr.units) (pe_callB (cr_max rfl) (by rfl) T.n_max (by decide +kernel) (pa_cons (pv 3) pa_nil)) (pe_callB (cr_min rfl) (by rfl) T.n_min (by decide +kernel) (pa_cons (pv 3) pa_nil)) (nomark _)) (pe_one (pe_cmpR (op_neA hr.units) (pv 6) pe_int (nomark _))))))))))))), enter h ?_⟩)
  try dsimp only [cxOf, Cx.nox, Cx.wish]
  rintro ⟨r, ps, qs⟩ ds M ⟨rfl, hr, hp, hq⟩
  dsimp only at *
  cases r with
  | rs =>
    refine sx_seq (sx_if ?_)
    walk_at "w"
    refine cx_isi TRs.isR TRs.kRJ ?_
    walk_at "w"
    refine ⟨(fun h => by cases h), fun _ => sx_next ?_⟩
    refine sx_seq (sx_if ?_)
    walk_at "w"
    refine cx_isi TRs.isR TRs.kRS ?_
    walk_at "w"
    refine ⟨(fun h => by cases h), fun _ => sx_next ?_⟩
    refine sx_seq (sx_if (tx_not (tx_test (ex_cb (ax_cons (ex_var rfl (ax_cons (ex_raw (ax_nil (cx_isi TRs.isR TRs.kRC ⟨_, rfl, (fun _ => ?_), fun h => nomatch h⟩))))))))))
    exact sx_ret (ex_bl (ret_pure rfl (Sub.refl M)))
  | jc =>
    refine sx_seq (sx_if ?_)
    walk_at "w"
    refine cx_isi TR.isJ TR.kJ ?_
    walk_at "w"
    refine ⟨fun _ => ?_, (fun h => by cases h)⟩
    refine sx_ret (ex_op (ex_cb (ax_cons (ex_var rfl (ax_nil (cx_len_tup (ex_cb (ax_cons (ex_var rfl (ax_nil (cx_len_tup (rx_ne_int (ret_pure ?_ (Sub.refl M))))))))))))))
    rw [List.length_map, List.length_map]
    show Dt.bl _ = Dt.bl (decide (ps.length ≠ qs.length))
    by_cases e : ps.length = qs.length
    · simp [e]
    · simp [e, Int.natCast_inj]
  | sc v =>
    refine sx_seq (sx_if ?_)
    walk_at "w"
    refine cx_isi TR.isS TR2.kSJ ?_
    walk_at "w"
    refine ⟨(fun h => by cases h), fun _ => sx_next ?_⟩
    refine sx_seq (sx_if ?_)
    walk_at "w"
    refine cx_isi TR.isS TR.kS ?_
    walk_at "w"
    refine ⟨fun _ => ?_, (fun h => by cases h)⟩
    refine sx_ret (ex_op (ex_tcount (ps := sticksP ps) (p := v) (ex_callP (ax_cons (ex_var rfl (ax_nil ⟨ps, rfl, hp.l8, rfl, ax_cons (ex_fld (ex_var rfl ⟨SC, _, _, rfl, TR.clS, TR.nS, rfl, ax_nil ⟨rfl, ?_⟩⟩))⟩))))))
    refine ex_tcount (ps := sticksP qs) (p := v) (ex_callP (ax_cons (ex_var rfl (ax_nil ⟨qs, rfl, hq.l8, rfl, ax_cons (ex_fld (ex_var rfl ⟨SC, _, _, rfl, TR.clS, TR.nS, rfl, ax_nil ⟨rfl, ?_⟩⟩))⟩))))
    refine rx_ne_int (ret_pure ?_ (Sub.refl _))
    show Dt.bl _ = Dt.bl (decide ((sticksP ps).count v ≠ (sticksP qs).count v))
    by_cases e : (sticksP ps).count v = (sticksP qs).count v
    · simp [e]
    · simp [e, Int.natCast_inj]
  | cg c =>
    have hc := Rsn.cgok hr
    have l0 : 0 < (sticksP ps).length := by rw [sticksP_length]; exact hp.pos
    have sm : ∀ s ∈ sticksP ps, SmP (2 ^ 60) s := fun s hs => bd_sm hp.bs (by decide) hs
    have mt := hp.mot hq
    refine sx_seq (sx_if ?_)
    walk_at "w"
    refine cx_isi TR.isC TR2.kCJ ?_
    walk_at "w"
    refine ⟨(fun h => by cases h), fun _ => sx_next ?_⟩
    refine sx_seq (sx_if ?_)
    walk_at "w"
    refine cx_isi TR.isC TR2.kCS ?_
    walk_at "w"
    refine ⟨(fun h => by cases h), fun _ => sx_next ?_⟩
    refine sx_seq (sx_if (tx_not (tx_test (ex_cb (ax_cons (ex_var rfl (ax_cons (ex_raw (ax_nil (cx_isi TR.isC TR.kC ⟨_, rfl, (fun h => nomatch h), fun _ => sx_next ?_⟩))))))))))
    refine sx_seq (sx_set (ex_lcm (by exact gw_tup (gw_cons (gw_name (by decide)) (gw_cons (gw_name (by decide)) gw_nil gm_name) gm_name)) (ix_any (ex_callP (ax_cons (ex_var rfl (ax_nil ⟨ps, rfl, hp.l8, ?_⟩)))))))
    refine ⟨_, _, .inl ⟨.inr (.inr rfl), rfl⟩, by rw [List.length_map, sticksP_length]; exact Nat.lt_of_le_of_lt hp.l8 (by decide), trivial, ((sticksP ps).map (valF c)).map Dt.int, by rw [List.length_map, List.length_map, List.length_map], ?_, ?_⟩
    · intro i d z hi hz
      rw [List.getElem?_map] at hi
      obtain ⟨v, hv, rfl⟩ := Option.map_eq_some_iff.mp hi
      rw [List.getElem?_map, List.getElem?_map, hv] at hz
      cases hz
      have hvs := sm v (List.mem_of_getElem? hv)
      refine gx_tup rfl (gxs_cons (gx_name (gxs_cons (gx_name (gxs_nil ?_)))))
      refine ex_op (ex_op (ex_fld (ex_var rfl ⟨CG, _, _, rfl, TR.clC, TR.nA, rfl, ex_var rfl (rx_mul_int (cmul_e hc.w.1 (sm_w hvs).1) ?_)⟩)))
      refine ex_op (ex_fld (ex_var rfl ⟨CG, _, _, rfl, TR.clC, TR.nB, rfl, ex_var rfl (rx_mul_int (cmul_e hc.w.2.1 (sm_w hvs).2) (rx_add_int ⟨rfl, rfl⟩))⟩))
    refine sx_seq (sx_par (ax_cons (ex_op ?_)))
    walk_at "w"
    refine rx_ix_tup (pt_at hq.pos) ?_
    walk_at "w"
    refine rx_ix_tup (pt_at hp.pos) ?_
    walk_at "w"
    refine rx_ix_tup (pt_at hq.pos) ?_
    walk_at "w"
    refine rx_ix_tup (pt_at hp.pos) ?_
    walk_at "w"
    refine ⟨_, _, rfl, ?_⟩
    refine sx_seq (sx_set (ex_op (ex_op (ex_fld (ex_var rfl ⟨CG, _, _, rfl, TR.clC, TR.nA, rfl, ex_var rfl (rx_mul_int (cmul_e hc.w.1 (sm_w mt).1) ?_)⟩)))))
    refine ex_op (ex_fld (ex_var rfl ⟨CG, _, _, rfl, TR.clC, TR.nB, rfl, ex_var rfl (rx_mul_int (cmul_e hc.w.2.1 (sm_w mt).2) (rx_add_int ?_))⟩))
    refine sx_seqc (fun ρ' M' => M' = M ∧ ∃ x4 x5 x7, ρ' = [some (cgD CG c), some (Pts ps), some (Pts qs), some (L1 ((sticksP ps).map (remF c))), x4, x5, some (.int (remF c (subP (ptD qs 0) (ptD ps 0)))), x7]) (sx_if (tx_test (ex_op (ex_fld (ex_var rfl ⟨CG, _, _, rfl, TR.clC, TR.nM, rfl, ex_int (rx_I0b ⟨_, rfl, fun hw => ?_, fun hw => ?_⟩)⟩))))) ?_
    · have hm : 0 < c.2.2 := dT hw
      refine sx_seq (sx_set (ex_lcm (by exact gw_name (by decide)) (ix_any (ex_var rfl ?_))))
      refine ⟨_, _, .inl ⟨.inl rfl, rfl⟩, by rw [List.length_map, List.length_map, sticksP_length]; exact Nat.lt_of_le_of_lt hp.l8 (by decide), trivial, ((sticksP ps).map (remF c)).map Dt.int, by rw [List.length_map, List.length_map, List.length_map, List.length_map], ?_, ?_⟩
      · intro i d z hi hz
        rw [List.getElem?_map, List.getElem?_map] at hi
        rw [List.getElem?_map, List.getElem?_map] at hz
        cases hs : (sticksP ps)[i]? with
        | none =>
          rw [hs] at hi
          cases hi
        | some v =>
          rw [hs] at hi hz
          cases hi
          cases hz
          refine gx_name (ex_op (ex_var rfl (ex_fld (ex_var rfl ⟨CG, _, _, rfl, TR.clC, TR.nM, rfl, rx_Ii hm ⟨?_, rfl⟩⟩))))
          unfold remF
          rw [if_pos hm]
      refine sx_set (ex_op (ex_var rfl (ex_fld (ex_var rfl ⟨CG, _, _, rfl, TR.clC, TR.nM, rfl, rx_Ii hm ?_⟩))))
      refine ⟨rfl, some (.int ((ptD qs 0).1 - (ptD ps 0).1)), some (.int ((ptD qs 0).2 - (ptD ps 0).2)), none, ?_⟩
      have e : remF c (subP (ptD qs 0) (ptD ps 0)) = valF c (subP (ptD qs 0) (ptD ps 0)) % c.2.2 := by
        unfold remF
        rw [if_pos hm]
      rw [e] <;> rfl
    · have hm : ¬ 0 < c.2.2 := dF hw
      refine sx_next ⟨rfl, some (.int ((ptD qs 0).1 - (ptD ps 0).1)), some (.int ((ptD qs 0).2 - (ptD ps 0).2)), none, ?_⟩
      have e : remF c = valF c := funext fun v => by
        unfold remF
        rw [if_neg hm]
      rw [e] <;> rfl
    rintro ρ' M' ⟨rfl, x4, x5, x7, rfl⟩
    have lv : 0 < ((sticksP ps).map (remF c)).length := by
      rw [List.length_map]
      exact l0
    refine sx_ret (ex_andV (ex_op (ex_cb (ax_cons (ex_var rfl (ax_nil (cx_maxI lv fun m hm hmx => ex_cb (ax_cons (ex_var rfl (ax_nil (cx_minI lv fun m2 hm2 hmn => rx_eq_int ⟨_, rfl, fun hw => ?_, fun hw => ?_⟩)))))))))))
    · have hh := hold_mm (qs := qs) hc.m0 l0 hm hmx hm2 hmn
      refine ex_op (ex_var rfl (ex_int (rx_ne_int (ret_pure ?_ (Sub.refl _)))))
      show _ = Dt.bl (holdC c ps qs)
      rw [hh, hw]
      simp
    · have hh := hold_mm (qs := qs) hc.m0 l0 hm hmx hm2 hmn
      refine ret_pure ?_ (Sub.refl _)
      show _ = Dt.bl (holdC c ps qs)
      rw [hh, hw] <;> rfl
end
end Wk
namespace Wk
open PySem L2 Evl
local macro_rules | `(tactic| walk_at "w1") => `(tactic| first
  | ((with_reducible refine' ex_var ?hv ?_); (case hv => rfl))
  | ((with_reducible refine' rx_ix_tup ?hv ?_); (case hv => rfl))
  | ((with_reducible refine' rx_ix_lst ?hv ?_); (case hv => rfl))
  | ((with_reducible refine' gx_tup ?hv ?_); (case hv => rfl))
  | ((with_reducible refine' rx_ix_cell ?hm ?hv ?_); (case hm => first | assumption | exact put_same); (case hv => rfl))
  | ((with_reducible refine' cx_len_cell ?hm ?_); (case hm => first | assumption | exact put_same))
  | ((with_reducible refine' rx_Ii ?hc ?_); (case hc => first | assumption | exact ⟨by decide, by decide +kernel⟩ | (show (0 : Int) < _; omega) | (show (0 : Int) < _; decide)))
  | ((with_reducible refine' rx_mul_int ?hc ?_); (case hc => first | assumption | exact cmul_l (by decide) (by decide) | exact cmul_r (by decide) (by decide)))
  | with_reducible refine ex_int ?_
  | with_reducible refine ex_str ?_
  | with_reducible refine ex_bl ?_
  | with_reducible refine ex_non ?_
  | with_reducible refine ex_raw ?_
  | with_reducible refine ex_op ?_
  | with_reducible refine ex_un ?_
  | with_reducible refine ex_cb ?_
  | with_reducible refine ex_tup ?_
  | with_reducible refine ex_sl ?_
  | with_reducible refine ox_none ?_
  | with_reducible refine ox_some ?_
  | with_reducible refine ax_nil ?_
  | with_reducible refine ax_cons ?_
  | with_reducible refine ex_if ?_
  | with_reducible refine ex_andV ?_
  | with_reducible refine ex_orV ?_
  | with_reducible refine ex_notV ?_
  | with_reducible refine ex_m0 ?_
  | with_reducible refine ex_m1 ?_
  | with_reducible refine tx_test ?_
  | with_reducible refine tx_B ?_
  | with_reducible refine tx_and ?_
  | with_reducible refine tx_or ?_
  | with_reducible refine tx_not ?_
  | with_reducible refine tx_yes ?_
  | with_reducible refine sx_seq ?_
  | with_reducible refine sx_set ?_
  | with_reducible refine sx_ret ?_
  | with_reducible refine sx_drop ?_
  | with_reducible refine sx_next ?_
  | with_reducible refine sx_if ?_
  | with_reducible refine sx_retN ?_
  | with_reducible refine sx_asg ?_
  | with_reducible refine sx_par ?_
  | with_reducible refine gx_name ?_
  | with_reducible refine gxs_cons ?_
  | with_reducible refine gxs_nil ?_
  | with_reducible refine rx_add_int ?_
  | with_reducible refine rx_I0i ?_
  | with_reducible refine rx_I0b ?_
  | with_reducible refine rx_eq_int ?_
  | with_reducible refine rx_ne_int ?_
  | with_reducible refine rx_eq_str ?_
  | with_reducible refine rx_ne_str ?_
  | with_reducible refine rx_eq_bl ?_
  | with_reducible refine rx_ne_bl ?_
  | with_reducible refine lx_tup ?_
  | with_reducible refine lx_lst ?_
  | with_reducible refine cx_len_tup ?_
  | with_reducible refine cx_len_lst ?_
  | with_reducible refine cx_len_frl ?_
  | with_reducible refine cx_max2 ?_
  | with_reducible refine ux_neg ?_
  | with_reducible refine cx_list_lst ?_
  | with_reducible refine cx_tuple_lst ?_
  | with_reducible refine cx_tuple_tup ?_
  | with_reducible refine mx_isdigit ?_
  | with_reducible refine mx_startswith ?_
  | with_reducible refine ix_any ?_
  | with_reducible refine And.intro (Nat.le_of_ble_eq_true rfl) ?_
  | refine Exists.intro _ (And.intro rfl ?_))
local macro_rules | `(tactic| walk_at "w") => `(tactic| repeat (walk_at "w1"))
section
variable {P : Program} {w : World} {K : PySem.W.Frag} {mg : Str → Option Value} {base : Heap} {C WE BP BT NC BJ S BW TM TF BS UN NP UF DP DF J UR SC JC CG RB RS FJ f g : Addr} {fd : FuncData}
theorem ok__law_text {f : Addr} {fd : FuncData} (F : Fun K "_law_text" "_law_text" s__law_text f fd) (T : Tx K mg C) (TRs : TxRs K mg RS JC SC CG) (TR : TxR K mg JC SC CG) (TR2 : TxR2 K JC SC CG) : FnOk P w K mg base CX0 1 f fd ["reason"] (spTextR K RS JC SC CG) := by
  refine F.ok sc__law_text (spD_len (n := 1) (fun x ds M h => by rw [h.1] <;> rfl)) (fun cdv A outer s H vs Q E hr h => ⟨_, (pss_cons (ps_if (pt_val (pe_callB (call_isiKK (K := K) rfl) (by rfl) T.n_isinstance (by decide +kernel) (pa_cons (pv 0) (pa_cons (pe_glob (v := .ref JC) rfl TR.gJ rfl) pa_nil)))) (pss_one (ps_ret pe_str)) pss_nil) (pss_cons (ps_if (pt_val (pe_callB (call_isiKK (K := K) rfl) (by rfl) T.n_isinstance (by decide +kernel) (pa_cons (pv 0) (pa_cons (pe_glob (v := .ref SC) rfl TR.gS rfl) pa_nil)))) (pss_one (ps_ret (pe_op op_addA (pe_op op_addA (pe_op op_addA pe_str (pe_callTy call_str_int (by rfl) T.n_str (by decide +kernel) (pa_cons (pe_ix ix_seq (pe_fld (pv 0) rfl) pe_int (fun _ _ => rfl)) pa_nil))) pe_str) (pe_callTy call_str_int (by rfl) T.n_str (by decide +kernel) (pa_cons (pe_ix ix_seq (pe_fld (pv 0) rfl) pe_int (fun _ _ => rfl)) pa_nil))))) pss_nil) (pss_cons (ps_if (pt_val (pe_callB (call_isiKK (K := K) rfl) (by rfl) T.n_isinstance (by decide +kernel) (pa_cons (pv 0) (pa_cons (pe_glob (v := .ref CG) rfl TR.gC rfl) pa_nil)))) (pss_cons (ps_set (i := 1) sc__law_text.nd rfl (Or.inl rfl) (pe_op op_addA (pe_op op_addA (pe_op op_addA (pe_op op_addA (pe_callTy call_str_int (by rfl) T.n_str (by decide +kernel) (pa_cons (pe_fld (pv 0) rfl) pa_nil)) pe_str) (pe_callTy call_str_int (by rfl) T.n_str (by decide +kernel) (pa_cons (pe_fld (pv 0) rfl) pa_nil))) pe_str) (pe_callTy call_str_int (by rfl) T.n_str (by decide +kernel) (pa_cons (pe_fld (pv 0) rfl) pa_nil)))) (pss_one (ps_ret (pe_op op_addA pe_str (pv 1))))) pss_nil) (pss_one (ps_ret pe_str))))), enter h ?_⟩)
  try dsimp only [cxOf, Cx.nox, Cx.wish]
  rintro r ds M ⟨rfl, hr⟩
  have hs : 4000 ≤ sizeLine := Nat.le_of_ble_eq_true rfl
  have lg : ∀ {i : Int} {n : Nat}, n ≤ 1000 → i.natAbs < 2 ^ n → i.natAbs < 2 ^ 1000 := fun h1 h2 => Nat.lt_of_lt_of_le h2 (Nat.pow_le_pow_right (by decide) h1)
  have le : ∀ {a b : Str} {m n : Nat}, a.length ≤ m → b.length ≤ n → (a ++ b).length ≤ m + n := fun h1 h2 => by
    rw [PySem.Str.length_append]
    exact Nat.add_le_add h1 h2
  cases r with
  | rs =>
    refine sx_seq (sx_if ?_)
    walk_at "w"
    refine cx_isi TRs.isR TRs.kRJ ?_
    walk_at "w"
    refine ⟨(fun h => by cases h), fun _ => sx_next ?_⟩
    refine sx_seq (sx_if ?_)
    walk_at "w"
    refine cx_isi TRs.isR TRs.kRS ?_
    walk_at "w"
    refine ⟨(fun h => by cases h), fun _ => sx_next ?_⟩
    refine sx_seq (sx_if ?_)
    walk_at "w"
    refine cx_isi TRs.isR TRs.kRC ?_
    walk_at "w"
    refine ⟨(fun h => by cases h), fun _ => sx_next ?_⟩
    exact sx_ret (ex_str (ret_pure rfl (Sub.refl M)))
  | jc =>
    refine sx_seq (sx_if ?_)
    walk_at "w"
    refine cx_isi TR.isJ TR.kJ ?_
    walk_at "w"
    refine ⟨fun _ => ?_, (fun h => by cases h)⟩
    exact sx_ret (ex_str (ret_pure (by rw [txt_jc]) (Sub.refl M)))
  | sc v =>
    refine sx_seq (sx_if ?_)
    walk_at "w"
    refine cx_isi TR.isS TR2.kSJ ?_
    walk_at "w"
    refine ⟨(fun h => by cases h), fun _ => sx_next ?_⟩
    refine sx_seq (sx_if ?_)
    walk_at "w"
    refine cx_isi TR.isS TR.kS ?_
    walk_at "w"
    refine ⟨fun _ => ?_, (fun h => by cases h)⟩
    have l0 : ("unreachable: stick " : Str).length ≤ 19 := by decide +kernel
    have l1 := wI_len (lg (show 900 ≤ 1000 by decide) hr.1)
    have l2 : ("," : Str).length ≤ 1 := by decide +kernel
    have l3 := wI_len (lg (show 900 ≤ 1000 by decide) hr.2)
    have z0 := l0
    have z1 := le z0 l1
    have z2 := le z1 l2
    have z3 := le z2 l3
    exact sx_ret (ex_op (ex_op (ex_op (ex_str (ex_cb (ax_cons (ex_op (ex_fld (ex_var rfl ⟨SC, _, _, rfl, TR.clS, TR.nS, rfl, ex_int (rx_ix_tup rfl (ax_nil (cx_str (log_lt (lg (show 900 ≤ 1000 by decide) hr.1)) (rx_add_str (Nat.le_trans (Nat.add_le_add z0 l1) (Nat.le_trans (by decide) hs)) (ex_str (rx_add_str (Nat.le_trans (Nat.add_le_add z1 l2) (Nat.le_trans (by decide) hs)) (ex_cb (ax_cons (ex_op (ex_fld (ex_var rfl ⟨SC, _, _, rfl, TR.clS, TR.nS, rfl, ex_int (rx_ix_tup rfl (ax_nil (cx_str (log_lt (lg (show 900 ≤ 1000 by decide) hr.2)) (rx_add_str (Nat.le_trans (Nat.add_le_add z2 l3) (Nat.le_trans (by decide) hs)) (ret_pure (by rw [txt_sc]) (Sub.refl M))))))⟩)))))))))))⟩)))))))))
  | cg c =>
    refine sx_seq (sx_if ?_)
    walk_at "w"
    refine cx_isi TR.isC TR2.kCJ ?_
    walk_at "w"
    refine ⟨(fun h => by cases h), fun _ => sx_next ?_⟩
    refine sx_seq (sx_if ?_)
    walk_at "w"
    refine cx_isi TR.isC TR2.kCS ?_
    walk_at "w"
    refine ⟨(fun h => by cases h), fun _ => sx_next ?_⟩
    refine sx_seq (sx_if ?_)
    walk_at "w"
    refine cx_isi TR.isC TR.kC ?_
    walk_at "w"
    refine ⟨fun _ => ?_, (fun h => by cases h)⟩
    have l0 := wI_len (lg (show 990 ≤ 1000 by decide) hr.1)
    have l1 : ("*x + " : Str).length ≤ 5 := by decide +kernel
    have l2 := wI_len (lg (show 990 ≤ 1000 by decide) hr.2.1)
    have l3 : ("*y modulo " : Str).length ≤ 10 := by decide +kernel
    have l4 := wI_len (lg (show 990 ≤ 1000 by decide) hr.2.2.1)
    have z0 := l0
    have z1 := le z0 l1
    have z2 := le z1 l2
    have z3 := le z2 l3
    have z4 := le z3 l4
    refine sx_seq (sx_set (ex_op (ex_op (ex_op (ex_op (ex_cb (ax_cons (ex_fld (ex_var rfl ⟨CG, _, _, rfl, TR.clC, TR.nA, rfl, ax_nil (cx_str (log_lt (lg (show 990 ≤ 1000 by decide) hr.1)) (ex_str (rx_add_str (Nat.le_trans (Nat.add_le_add z0 l1) (Nat.le_trans (by decide) hs)) (ex_cb (ax_cons (ex_fld (ex_var rfl ⟨CG, _, _, rfl, TR.clC, TR.nB, rfl, ax_nil (cx_str (log_lt (lg (show 990 ≤ 1000 by decide) hr.2.1)) (rx_add_str (Nat.le_trans (Nat.add_le_add z1 l2) (Nat.le_trans (by decide) hs)) (ex_str (rx_add_str (Nat.le_trans (Nat.add_le_add z2 l3) (Nat.le_trans (by decide) hs)) (ex_cb (ax_cons (ex_fld (ex_var rfl ⟨CG, _, _, rfl, TR.clC, TR.nM, rfl, ax_nil (cx_str (log_lt (lg (show 990 ≤ 1000 by decide) hr.2.2.1)) (rx_add_str (Nat.le_trans (Nat.add_le_add z3 l4) (Nat.le_trans (by decide) hs)) (?_)))⟩))))))))⟩)))))))⟩)))))))))
    exact sx_ret (ex_op (ex_str (ex_var rfl (rx_add_str (Nat.le_trans (Nat.add_le_add (show ("unreachable: " : Str).length ≤ 13 by decide +kernel) z4) (Nat.le_trans (by decide) hs)) (ret_pure (by rw [txt_cg]) (Sub.refl M))))))
end
end Wk
namespace Wk
open PySem L2 Evl
local macro_rules | `(tactic| walk_at "w1") => `(tactic| first
  | ((with_reducible refine' ex_var ?hv ?_); (case hv => rfl))
  | ((with_reducible refine' rx_ix_tup ?hv ?_); (case hv => rfl))
  | ((with_reducible refine' rx_ix_lst ?hv ?_); (case hv => rfl))
  | ((with_reducible refine' gx_tup ?hv ?_); (case hv => rfl))
  | ((with_reducible refine' rx_ix_cell ?hm ?hv ?_); (case hm => first | assumption | exact put_same); (case hv => rfl))
  | ((with_reducible refine' cx_len_cell ?hm ?_); (case hm => first | assumption | exact put_same))
  | ((with_reducible refine' rx_Ii ?hc ?_); (case hc => first | assumption | exact ⟨by decide, by decide +kernel⟩ | (show (0 : Int) < _; omega) | (show (0 : Int) < _; decide)))
  | ((with_reducible refine' rx_mul_int ?hc ?_); (case hc => first | assumption | exact cmul_l (by decide) (by decide) | exact cmul_r (by decide) (by decide)))
  | with_reducible refine ex_int ?_
  | with_reducible refine ex_str ?_
  | with_reducible refine ex_bl ?_
  | with_reducible refine ex_non ?_
  | with_reducible refine ex_raw ?_
  | with_reducible refine ex_op ?_
  | with_reducible refine ex_un ?_
  | with_reducible refine ex_cb ?_
  | with_reducible refine ex_tup ?_
  | with_reducible refine ex_sl ?_
  | with_reducible refine ox_none ?_
  | with_reducible refine ox_some ?_
  | with_reducible refine ax_nil ?_
  | with_reducible refine ax_cons ?_
  | with_reducible refine ex_if ?_
  | with_reducible refine ex_andV ?_
  | with_reducible refine ex_orV ?_
  | with_reducible refine ex_notV ?_
  | with_reducible refine ex_m0 ?_
  | with_reducible refine ex_m1 ?_
  | with_reducible refine tx_test ?_
  | with_reducible refine tx_B ?_
  | with_reducible refine tx_and ?_
  | with_reducible refine tx_or ?_
  | with_reducible refine tx_not ?_
  | with_reducible refine tx_yes ?_
  | with_reducible refine sx_seq ?_
  | with_reducible refine sx_set ?_
  | with_reducible refine sx_ret ?_
  | with_reducible refine sx_drop ?_
  | with_reducible refine sx_next ?_
  | with_reducible refine sx_if ?_
  | with_reducible refine sx_retN ?_
  | with_reducible refine sx_asg ?_
  | with_reducible refine sx_par ?_
  | with_reducible refine gx_name ?_
  | with_reducible refine gxs_cons ?_
  | with_reducible refine gxs_nil ?_
  | with_reducible refine rx_add_int ?_
  | with_reducible refine rx_I0i ?_
  | with_reducible refine rx_I0b ?_
  | with_reducible refine rx_eq_int ?_
  | with_reducible refine rx_ne_int ?_
  | with_reducible refine rx_eq_str ?_
  | with_reducible refine rx_ne_str ?_
  | with_reducible refine rx_eq_bl ?_
  | with_reducible refine rx_ne_bl ?_
  | with_reducible refine lx_tup ?_
  | with_reducible refine lx_lst ?_
  | with_reducible refine cx_len_tup ?_
  | with_reducible refine cx_len_lst ?_
  | with_reducible refine cx_len_frl ?_
  | with_reducible refine cx_max2 ?_
  | with_reducible refine ux_neg ?_
  | with_reducible refine cx_list_lst ?_
  | with_reducible refine cx_tuple_lst ?_
  | with_reducible refine cx_tuple_tup ?_
  | with_reducible refine mx_isdigit ?_
  | with_reducible refine mx_startswith ?_
  | with_reducible refine ix_any ?_
  | with_reducible refine And.intro (Nat.le_of_ble_eq_true rfl) ?_
  | refine Exists.intro _ (And.intro rfl ?_))
local macro_rules | `(tactic| walk_at "w") => `(tactic| repeat (walk_at "w1"))
section
variable {P : Program} {w : World} {K : PySem.W.Frag} {mg : Str → Option Value} {base : Heap} {C WE BP BT NC BJ S BW TM TF BS UN NP UF DP DF J UR SC JC CG RB RS FJ f g : Addr} {fd : FuncData}
theorem ok__law_key {f : Addr} {fd : FuncData} (F : Fun K "_law_key" "_law_key" s__law_key f fd) (T : Tx K mg C) (TRs : TxRs K mg RS JC SC CG) (TR : TxR K mg JC SC CG) (TR2 : TxR2 K JC SC CG) : FnOk P w K mg base CX0 1 f fd ["reason"] (spKeyR K RS JC SC CG) := by
  refine F.ok sc__law_key (spD_len (n := 1) (fun x ds M h => by rw [h.1] <;> rfl)) (fun cdv A outer s H vs Q E hr h => ⟨_, (pss_cons (ps_set (i := 1) sc__law_key.nd rfl (Or.inl rfl) (pe_lst (pa_cons (pe_callB (call_isiKK (K := K) rfl) (by rfl) T.n_isinstance (by decide +kernel) (pa_cons (pv 0) (pa_cons (pe_glob (v := .ref JC) rfl TR.gJ rfl) pa_nil))) (pa_cons (pe_callB (call_isiKK (K := K) rfl) (by rfl) T.n_isinstance (by decide +kernel) (pa_cons (pv 0) (pa_cons (pe_glob (v := .ref SC) rfl TR.gS rfl) pa_nil))) (pa_cons (pe_callB (call_isiKK (K := K) rfl) (by rfl) T.n_isinstance (by decide +kernel) (pa_cons (pv 0) (pa_cons (pe_glob (v := .ref CG) rfl TR.gC rfl) pa_nil))) pa_nil))))) (pss_cons (ps_if (pt_val (pe_ix ix_seq (pv 1) pe_int (fun _ _ => rfl))) (pss_one (ps_ret (pe_tup (pa_cons (pv 1) (pa_cons (pe_fld (pv 0) rfl) pa_nil))))) pss_nil) (pss_one (ps_ret (pe_ifExp (pt_val (pe_ix ix_seq (pv 1) pe_int (fun _ _ => rfl))) (pe_tup (pa_cons (pv 1) (pa_cons (pe_tup (pa_cons (pe_fld (pv 0) rfl) (pa_cons (pe_fld (pv 0) rfl) (pa_cons (pe_fld (pv 0) rfl) pa_nil)))) pa_nil))) (pe_tup (pa_cons (pv 1) (pa_cons (pe_tup pa_nil) pa_nil)))))))), enter h ?_⟩)
  try dsimp only [cxOf, Cx.nox, Cx.wish]
  rintro r ds M ⟨rfl, _⟩
  cases r with
  | rs =>
    refine sx_seq (sx_set (ex_lst (ax_cons (ex_cb (ax_cons (ex_var rfl (ax_cons (ex_raw (ax_nil (cx_isi TRs.isR TRs.kRJ (ax_cons (ex_cb (ax_cons (ex_var rfl (ax_cons (ex_raw (ax_nil (cx_isi TRs.isR TRs.kRS (ax_cons (ex_cb (ax_cons (ex_var rfl (ax_cons (ex_raw (ax_nil (cx_isi TRs.isR TRs.kRC (ax_nil ⟨Nat.le_of_ble_eq_true rfl, ?_⟩)))))))))))))))))))))))))))
    refine sx_seq (sx_if (tx_B (ex_op (ex_var rfl (ex_int (rx_ix_lst rfl ⟨false, rfl, (fun h => by cases h), fun _ => sx_next ?_⟩))))))
    refine sx_ret (ex_if (tx_B (ex_op (ex_var rfl (ex_int (rx_ix_lst rfl ⟨false, rfl, (fun h => by cases h), fun _ => ?_⟩))))))
    exact ex_tup (ax_cons (ex_var rfl (ax_cons (ex_tup (ax_nil ⟨Nat.le_of_ble_eq_true rfl, ax_nil ⟨Nat.le_of_ble_eq_true rfl, ret_pure rfl (Sub.refl M)⟩⟩)))))
  | jc =>
    refine sx_seq (sx_set (ex_lst (ax_cons (ex_cb (ax_cons (ex_var rfl (ax_cons (ex_raw (ax_nil (cx_isi TR.isJ TR.kJ (ax_cons (ex_cb (ax_cons (ex_var rfl (ax_cons (ex_raw (ax_nil (cx_isi TR.isJ TRs.kJS (ax_cons (ex_cb (ax_cons (ex_var rfl (ax_cons (ex_raw (ax_nil (cx_isi TR.isJ TRs.kJC (ax_nil ⟨Nat.le_of_ble_eq_true rfl, ?_⟩)))))))))))))))))))))))))))
    refine sx_seq (sx_if (tx_B (ex_op (ex_var rfl (ex_int (rx_ix_lst rfl ⟨false, rfl, (fun h => by cases h), fun _ => sx_next ?_⟩))))))
    refine sx_ret (ex_if (tx_B (ex_op (ex_var rfl (ex_int (rx_ix_lst rfl ⟨false, rfl, (fun h => by cases h), fun _ => ?_⟩))))))
    exact ex_tup (ax_cons (ex_var rfl (ax_cons (ex_tup (ax_nil ⟨Nat.le_of_ble_eq_true rfl, ax_nil ⟨Nat.le_of_ble_eq_true rfl, ret_pure rfl (Sub.refl M)⟩⟩)))))
  | sc v =>
    refine sx_seq (sx_set (ex_lst (ax_cons (ex_cb (ax_cons (ex_var rfl (ax_cons (ex_raw (ax_nil (cx_isi TR.isS TR2.kSJ (ax_cons (ex_cb (ax_cons (ex_var rfl (ax_cons (ex_raw (ax_nil (cx_isi TR.isS TR.kS (ax_cons (ex_cb (ax_cons (ex_var rfl (ax_cons (ex_raw (ax_nil (cx_isi TR.isS TRs.kSC (ax_nil ⟨Nat.le_of_ble_eq_true rfl, ?_⟩)))))))))))))))))))))))))))
    refine sx_seq (sx_if (tx_B (ex_op (ex_var rfl (ex_int (rx_ix_lst rfl ⟨true, rfl, (fun _ => ?_), fun h => by cases h⟩))))))
    exact sx_ret (ex_tup (ax_cons (ex_var rfl (ax_cons (ex_fld (ex_var rfl ⟨SC, _, _, rfl, TR.clS, TR.nS, rfl, ax_nil ⟨Nat.le_of_ble_eq_true rfl, ret_pure rfl (Sub.refl M)⟩⟩))))))
  | cg c =>
    refine sx_seq (sx_set (ex_lst (ax_cons (ex_cb (ax_cons (ex_var rfl (ax_cons (ex_raw (ax_nil (cx_isi TR.isC TR2.kCJ (ax_cons (ex_cb (ax_cons (ex_var rfl (ax_cons (ex_raw (ax_nil (cx_isi TR.isC TR2.kCS (ax_cons (ex_cb (ax_cons (ex_var rfl (ax_cons (ex_raw (ax_nil (cx_isi TR.isC TR.kC (ax_nil ⟨Nat.le_of_ble_eq_true rfl, ?_⟩)))))))))))))))))))))))))))
    refine sx_seq (sx_if (tx_B (ex_op (ex_var rfl (ex_int (rx_ix_lst rfl ⟨false, rfl, (fun h => by cases h), fun _ => sx_next ?_⟩))))))
    refine sx_ret (ex_if (tx_B (ex_op (ex_var rfl (ex_int (rx_ix_lst rfl ⟨true, rfl, (fun _ => ?_), fun h => by cases h⟩))))))
    refine ex_tup (ax_cons (ex_var rfl (ax_cons (ex_tup (ax_cons (ex_fld (ex_var rfl ⟨CG, _, _, rfl, TR.clC, TR.nA, rfl, ax_cons (ex_fld (ex_var rfl ⟨CG, _, _, rfl, TR.clC, TR.nB, rfl, ax_cons (ex_fld (ex_var rfl ⟨CG, _, _, rfl, TR.clC, TR.nM, rfl, ax_nil ⟨Nat.le_of_ble_eq_true rfl, ax_nil ⟨Nat.le_of_ble_eq_true rfl, ret_pure rfl (Sub.refl M)⟩⟩⟩))⟩))⟩)))))))
end
end Wk
namespace Wk
open PySem L2 Evl
local macro_rules | `(tactic| walk_at "w1") => `(tactic| first
  | ((with_reducible refine' ex_var ?hv ?_); (case hv => rfl))
  | ((with_reducible refine' rx_ix_tup ?hv ?_); (case hv => rfl))
  | ((with_reducible refine' rx_ix_lst ?hv ?_); (case hv => rfl))
  | ((with_reducible refine' gx_tup ?hv ?_); (case hv => rfl))
  | ((with_reducible refine' rx_ix_cell ?hm ?hv ?_); (case hm => first | assumption | exact put_same); (case hv => rfl))
  | ((with_reducible refine' cx_len_cell ?hm ?_); (case hm => first | assumption | exact put_same))
  | ((with_reducible refine' rx_Ii ?hc ?_); (case hc => first | assumption | exact ⟨by decide, by decide +kernel⟩ | (show (0 : Int) < _; omega) | (show (0 : Int) < _; decide)))
  | ((with_reducible refine' rx_mul_int ?hc ?_); (case hc => first | assumption | exact cmul_l (by decide) (by decide) | exact cmul_r (by decide) (by decide)))
  | with_reducible refine ex_int ?_
  | with_reducible refine ex_str ?_
  | with_reducible refine ex_bl ?_
  | with_reducible refine ex_non ?_
  | with_reducible refine ex_raw ?_
  | with_reducible refine ex_op ?_
  | with_reducible refine ex_un ?_
  | with_reducible refine ex_cb ?_
  | with_reducible refine ex_tup ?_
  | with_reducible refine ex_sl ?_
  | with_reducible refine ox_none ?_
  | with_reducible refine ox_some ?_
  | with_reducible refine ax_nil ?_
  | with_reducible refine ax_cons ?_
  | with_reducible refine ex_if ?_
  | with_reducible refine ex_andV ?_
  | with_reducible refine ex_orV ?_
  | with_reducible refine ex_notV ?_
  | with_reducible refine ex_m0 ?_
  | with_reducible refine ex_m1 ?_
  | with_reducible refine tx_test ?_
  | with_reducible refine tx_B ?_
  | with_reducible refine tx_and ?_
  | with_reducible refine tx_or ?_
  | with_reducible refine tx_not ?_
  | with_reducible refine tx_yes ?_
  | with_reducible refine sx_seq ?_
  | with_reducible refine sx_set ?_
  | with_reducible refine sx_ret ?_
  | with_reducible refine sx_drop ?_
  | with_reducible refine sx_next ?_
  | with_reducible refine sx_if ?_
  | with_reducible refine sx_retN ?_
  | with_reducible refine sx_asg ?_
  | with_reducible refine sx_par ?_
  | with_reducible refine gx_name ?_
  | with_reducible refine gxs_cons ?_
  | with_reducible refine gxs_nil ?_
  | with_reducible refine rx_add_int ?_
  | with_reducible refine rx_I0i ?_
  | with_reducible refine rx_I0b ?_
  | with_reducible refine rx_eq_int ?_
  | with_reducible refine rx_ne_int ?_
  | with_reducible refine rx_eq_str ?_
  | with_reducible refine rx_ne_str ?_
  | with_reducible refine rx_eq_bl ?_
  | with_reducible refine rx_ne_bl ?_
  | with_reducible refine lx_tup ?_
  | with_reducible refine lx_lst ?_
  | with_reducible refine cx_len_tup ?_
  | with_reducible refine cx_len_lst ?_
  | with_reducible refine cx_len_frl ?_
  | with_reducible refine cx_max2 ?_
  | with_reducible refine ux_neg ?_
  | with_reducible refine cx_list_lst ?_
  | with_reducible refine cx_tuple_lst ?_
  | with_reducible refine cx_tuple_tup ?_
  | with_reducible refine mx_isdigit ?_
  | with_reducible refine mx_startswith ?_
  | with_reducible refine ix_any ?_
  | with_reducible refine And.intro (Nat.le_of_ble_eq_true rfl) ?_
  | refine Exists.intro _ (And.intro rfl ?_))
local macro_rules | `(tactic| walk_at "w") => `(tactic| repeat (walk_at "w1"))
section
variable {P : Program} {w : World} {K : PySem.W.Frag} {mg : Str → Option Value} {base : Heap} {C WE BP BT NC BJ S BW TM TF BS UN NP UF DP DF J UR SC JC CG RB RS FJ f g : Addr} {fd : FuncData}
theorem ok_Reason_holds {f : Addr} {fd : FuncData} (F : Fun K "holds" "Reason.holds" s_Reason_holds f fd) (T : Tx K mg C)  : FnOk P w K mg base CX0 1 f fd ["self", "start", "goal"] (spHoldR K C RS) := by
  refine F.ok sc_Reason_holds (spD_len (n := 3) (fun x ds M h => by rw [h.1] <;> rfl)) (fun cdv A outer s H vs Q E hr h => ⟨_, (pss_one (ps_ret pe_bl)), enter h ?_⟩)
  try dsimp only [cxOf, Cx.nox, Cx.wish]
  rintro x ds M ⟨rfl, _⟩
  exact sx_ret (ex_bl (ret_pure rfl (Sub.refl M)))
end
end Wk
namespace Wk
open PySem L2 Evl
local macro_rules | `(tactic| walk_at "w1") => `(tactic| first
  | ((with_reducible refine' ex_var ?hv ?_); (case hv => rfl))
  | ((with_reducible refine' rx_ix_tup ?hv ?_); (case hv => rfl))
  | ((with_reducible refine' rx_ix_lst ?hv ?_); (case hv => rfl))
  | ((with_reducible refine' gx_tup ?hv ?_); (case hv => rfl))
  | ((with_reducible refine' rx_ix_cell ?hm ?hv ?_); (case hm => first | assumption | exact put_same); (case hv => rfl))
  | ((with_reducible refine' cx_len_cell ?hm ?_); (case hm => first | assumption | exact put_same))
  | ((with_reducible refine' rx_Ii ?hc ?_); (case hc => first | assumption | exact ⟨by decide, by decide +kernel⟩ | (show (0 : Int) < _; omega) | (show (0 : Int) < _; decide)))
  | ((with_reducible refine' rx_mul_int ?hc ?_); (case hc => first | assumption | exact cmul_l (by decide) (by decide) | exact cmul_r (by decide) (by decide)))
  | with_reducible refine ex_int ?_
  | with_reducible refine ex_str ?_
  | with_reducible refine ex_bl ?_
  | with_reducible refine ex_non ?_
  | with_reducible refine ex_raw ?_
  | with_reducible refine ex_op ?_
  | with_reducible refine ex_un ?_
  | with_reducible refine ex_cb ?_
  | with_reducible refine ex_tup ?_
  | with_reducible refine ex_sl ?_
  | with_reducible refine ox_none ?_
  | with_reducible refine ox_some ?_
  | with_reducible refine ax_nil ?_
  | with_reducible refine ax_cons ?_
  | with_reducible refine ex_if ?_
  | with_reducible refine ex_andV ?_
  | with_reducible refine ex_orV ?_
  | with_reducible refine ex_notV ?_
  | with_reducible refine ex_m0 ?_
  | with_reducible refine ex_m1 ?_
  | with_reducible refine tx_test ?_
  | with_reducible refine tx_B ?_
  | with_reducible refine tx_and ?_
  | with_reducible refine tx_or ?_
  | with_reducible refine tx_not ?_
  | with_reducible refine tx_yes ?_
  | with_reducible refine sx_seq ?_
  | with_reducible refine sx_set ?_
  | with_reducible refine sx_ret ?_
  | with_reducible refine sx_drop ?_
  | with_reducible refine sx_next ?_
  | with_reducible refine sx_if ?_
  | with_reducible refine sx_retN ?_
  | with_reducible refine sx_asg ?_
  | with_reducible refine sx_par ?_
  | with_reducible refine gx_name ?_
  | with_reducible refine gxs_cons ?_
  | with_reducible refine gxs_nil ?_
  | with_reducible refine rx_add_int ?_
  | with_reducible refine rx_I0i ?_
  | with_reducible refine rx_I0b ?_
  | with_reducible refine rx_eq_int ?_
  | with_reducible refine rx_ne_int ?_
  | with_reducible refine rx_eq_str ?_
  | with_reducible refine rx_ne_str ?_
  | with_reducible refine rx_eq_bl ?_
  | with_reducible refine rx_ne_bl ?_
  | with_reducible refine lx_tup ?_
  | with_reducible refine lx_lst ?_
  | with_reducible refine cx_len_tup ?_
  | with_reducible refine cx_len_lst ?_
  | with_reducible refine cx_len_frl ?_
  | with_reducible refine cx_max2 ?_
  | with_reducible refine ux_neg ?_
  | with_reducible refine cx_list_lst ?_
  | with_reducible refine cx_tuple_lst ?_
  | with_reducible refine cx_tuple_tup ?_
  | with_reducible refine mx_isdigit ?_
  | with_reducible refine mx_startswith ?_
  | with_reducible refine ix_any ?_
  | with_reducible refine And.intro (Nat.le_of_ble_eq_true rfl) ?_
  | refine Exists.intro _ (And.intro rfl ?_))
local macro_rules | `(tactic| walk_at "w") => `(tactic| repeat (walk_at "w1"))
section
variable {P : Program} {w : World} {K : PySem.W.Frag} {mg : Str → Option Value} {base : Heap} {C WE BP BT NC BJ S BW TM TF BS UN NP UF DP DF J UR SC JC CG RB RS FJ f g : Addr} {fd : FuncData}
theorem ok_JointCount_holds {f : Addr} {fd : FuncData} (F : Fun K "holds" "JointCount.holds" s_JointCount_holds f fd) (T : Tx K mg C) (c_len : LenR P w K mg base 1 C (spLenP K C)) : FnOk P w K mg base CX0 3 f fd ["self", "start", "goal"] (spHoldJ K C JC) := by
  refine F.ok sc_JointCount_holds (spD_len (n := 3) (fun x ds M h => by rw [h.1] <;> rfl)) (fun cdv A outer s H vs Q E hr h => ⟨_, (pss_one (ps_ret (pe_cmpR (op_neA hr.units) (pe_callB (call_lenR c_len hr (by decide)) (by rfl) T.n_len (by decide +kernel) (pa_cons (pv 1) pa_nil)) (pe_callB (call_lenR c_len hr (by decide)) (by rfl) T.n_len (by decide +kernel) (pa_cons (pv 2) pa_nil)) (nomark _)))), enter h ?_⟩)
  try dsimp only [cxOf, Cx.nox, Cx.wish]
  rintro ⟨ps, qs⟩ ds M ⟨rfl, h1, h2⟩
  dsimp only at *
  refine sx_ret (ex_op (ex_cb (ax_cons (ex_var rfl (ax_nil (cx_lenO ⟨ps, ⟨rfl, h1⟩, ?_⟩))))))
  rintro d M2 ⟨rfl, rfl⟩
  refine ⟨_, rfl, by omega, by omega, ?_⟩
  refine ex_cb (ax_cons (ex_var rfl (ax_nil (cx_lenO ⟨qs, ⟨rfl, h2⟩, ?_⟩))))
  rintro d M3 ⟨rfl, rfl⟩
  refine ⟨_, rfl, by omega, by omega, ?_⟩
  refine rx_ne_int (ret_pure ?_ (Sub.refl _))
  by_cases e : ps.length = qs.length
  · simp [e]
  · simp [e, Int.natCast_inj]
end
end Wk
namespace Wk
open PySem L2 Evl
local macro_rules | `(tactic| walk_at "w1") => `(tactic| first
  | ((with_reducible refine' ex_var ?hv ?_); (case hv => rfl))
  | ((with_reducible refine' rx_ix_tup ?hv ?_); (case hv => rfl))
  | ((with_reducible refine' rx_ix_lst ?hv ?_); (case hv => rfl))
  | ((with_reducible refine' gx_tup ?hv ?_); (case hv => rfl))
  | ((with_reducible refine' rx_ix_cell ?hm ?hv ?_); (case hm => first | assumption | exact put_same); (case hv => rfl))
  | ((with_reducible refine' cx_len_cell ?hm ?_); (case hm => first | assumption | exact put_same))
  | ((with_reducible refine' rx_Ii ?hc ?_); (case hc => first | assumption | exact ⟨by decide, by decide +kernel⟩ | (show (0 : Int) < _; omega) | (show (0 : Int) < _; decide)))
  | ((with_reducible refine' rx_mul_int ?hc ?_); (case hc => first | assumption | exact cmul_l (by decide) (by decide) | exact cmul_r (by decide) (by decide)))
  | with_reducible refine ex_int ?_
  | with_reducible refine ex_str ?_
  | with_reducible refine ex_bl ?_
  | with_reducible refine ex_non ?_
  | with_reducible refine ex_raw ?_
  | with_reducible refine ex_op ?_
  | with_reducible refine ex_un ?_
  | with_reducible refine ex_cb ?_
  | with_reducible refine ex_tup ?_
  | with_reducible refine ex_sl ?_
  | with_reducible refine ox_none ?_
  | with_reducible refine ox_some ?_
  | with_reducible refine ax_nil ?_
  | with_reducible refine ax_cons ?_
  | with_reducible refine ex_if ?_
  | with_reducible refine ex_andV ?_
  | with_reducible refine ex_orV ?_
  | with_reducible refine ex_notV ?_
  | with_reducible refine ex_m0 ?_
  | with_reducible refine ex_m1 ?_
  | with_reducible refine tx_test ?_
  | with_reducible refine tx_B ?_
  | with_reducible refine tx_and ?_
  | with_reducible refine tx_or ?_
  | with_reducible refine tx_not ?_
  | with_reducible refine tx_yes ?_
  | with_reducible refine sx_seq ?_
  | with_reducible refine sx_set ?_
  | with_reducible refine sx_ret ?_
  | with_reducible refine sx_drop ?_
  | with_reducible refine sx_next ?_
  | with_reducible refine sx_if ?_
  | with_reducible refine sx_retN ?_
  | with_reducible refine sx_asg ?_
  | with_reducible refine sx_par ?_
  | with_reducible refine gx_name ?_
  | with_reducible refine gxs_cons ?_
  | with_reducible refine gxs_nil ?_
  | with_reducible refine rx_add_int ?_
  | with_reducible refine rx_I0i ?_
  | with_reducible refine rx_I0b ?_
  | with_reducible refine rx_eq_int ?_
  | with_reducible refine rx_ne_int ?_
  | with_reducible refine rx_eq_str ?_
  | with_reducible refine rx_ne_str ?_
  | with_reducible refine rx_eq_bl ?_
  | with_reducible refine rx_ne_bl ?_
  | with_reducible refine lx_tup ?_
  | with_reducible refine lx_lst ?_
  | with_reducible refine cx_len_tup ?_
  | with_reducible refine cx_len_lst ?_
  | with_reducible refine cx_len_frl ?_
  | with_reducible refine cx_max2 ?_
  | with_reducible refine ux_neg ?_
  | with_reducible refine cx_list_lst ?_
  | with_reducible refine cx_tuple_lst ?_
  | with_reducible refine cx_tuple_tup ?_
  | with_reducible refine mx_isdigit ?_
  | with_reducible refine mx_startswith ?_
  | with_reducible refine ix_any ?_
  | with_reducible refine And.intro (Nat.le_of_ble_eq_true rfl) ?_
  | refine Exists.intro _ (And.intro rfl ?_))
local macro_rules | `(tactic| walk_at "w") => `(tactic| repeat (walk_at "w1"))
section
variable {P : Program} {w : World} {K : PySem.W.Frag} {mg : Str → Option Value} {base : Heap} {C WE BP BT NC BJ S BW TM TF BS UN NP UF DP DF J UR SC JC CG RB RS FJ f g : Addr} {fd : FuncData}
theorem ok_Reason_told {f : Addr} {fd : FuncData} (F : Fun K "told" "Reason.told" s_Reason_told f fd) (T : Tx K mg C)  : FnOk P w K mg base CX0 1 f fd ["self"] (spToldA K) := by
  refine F.ok sc_Reason_told (spD_len (n := 1) (fun x ds M h => by rw [h.1] <;> rfl)) (fun cdv A outer s H vs Q E hr h => ⟨_, (pss_one (ps_ret pe_str)), enter h ?_⟩)
  try dsimp only [cxOf, Cx.nox, Cx.wish]
  rintro d ds M ⟨rfl, _⟩
  exact sx_ret (ex_str (ret_pure rfl (Sub.refl M)))
end
end Wk
namespace Wk
open PySem L2 Evl
local macro_rules | `(tactic| walk_at "w1") => `(tactic| first
  | ((with_reducible refine' ex_var ?hv ?_); (case hv => rfl))
  | ((with_reducible refine' rx_ix_tup ?hv ?_); (case hv => rfl))
  | ((with_reducible refine' rx_ix_lst ?hv ?_); (case hv => rfl))
  | ((with_reducible refine' gx_tup ?hv ?_); (case hv => rfl))
  | ((with_reducible refine' rx_ix_cell ?hm ?hv ?_); (case hm => first | assumption | exact put_same); (case hv => rfl))
  | ((with_reducible refine' cx_len_cell ?hm ?_); (case hm => first | assumption | exact put_same))
  | ((with_reducible refine' rx_Ii ?hc ?_); (case hc => first | assumption | exact ⟨by decide, by decide +kernel⟩ | (show (0 : Int) < _; omega) | (show (0 : Int) < _; decide)))
  | ((with_reducible refine' rx_mul_int ?hc ?_); (case hc => first | assumption | exact cmul_l (by decide) (by decide) | exact cmul_r (by decide) (by decide)))
  | with_reducible refine ex_int ?_
  | with_reducible refine ex_str ?_
  | with_reducible refine ex_bl ?_
  | with_reducible refine ex_non ?_
  | with_reducible refine ex_raw ?_
  | with_reducible refine ex_op ?_
  | with_reducible refine ex_un ?_
  | with_reducible refine ex_cb ?_
  | with_reducible refine ex_tup ?_
  | with_reducible refine ex_sl ?_
  | with_reducible refine ox_none ?_
  | with_reducible refine ox_some ?_
  | with_reducible refine ax_nil ?_
  | with_reducible refine ax_cons ?_
  | with_reducible refine ex_if ?_
  | with_reducible refine ex_andV ?_
  | with_reducible refine ex_orV ?_
  | with_reducible refine ex_notV ?_
  | with_reducible refine ex_m0 ?_
  | with_reducible refine ex_m1 ?_
  | with_reducible refine tx_test ?_
  | with_reducible refine tx_B ?_
  | with_reducible refine tx_and ?_
  | with_reducible refine tx_or ?_
  | with_reducible refine tx_not ?_
  | with_reducible refine tx_yes ?_
  | with_reducible refine sx_seq ?_
  | with_reducible refine sx_set ?_
  | with_reducible refine sx_ret ?_
  | with_reducible refine sx_drop ?_
  | with_reducible refine sx_next ?_
  | with_reducible refine sx_if ?_
  | with_reducible refine sx_retN ?_
  | with_reducible refine sx_asg ?_
  | with_reducible refine sx_par ?_
  | with_reducible refine gx_name ?_
  | with_reducible refine gxs_cons ?_
  | with_reducible refine gxs_nil ?_
  | with_reducible refine rx_add_int ?_
  | with_reducible refine rx_I0i ?_
  | with_reducible refine rx_I0b ?_
  | with_reducible refine rx_eq_int ?_
  | with_reducible refine rx_ne_int ?_
  | with_reducible refine rx_eq_str ?_
  | with_reducible refine rx_ne_str ?_
  | with_reducible refine rx_eq_bl ?_
  | with_reducible refine rx_ne_bl ?_
  | with_reducible refine lx_tup ?_
  | with_reducible refine lx_lst ?_
  | with_reducible refine cx_len_tup ?_
  | with_reducible refine cx_len_lst ?_
  | with_reducible refine cx_len_frl ?_
  | with_reducible refine cx_max2 ?_
  | with_reducible refine ux_neg ?_
  | with_reducible refine cx_list_lst ?_
  | with_reducible refine cx_tuple_lst ?_
  | with_reducible refine cx_tuple_tup ?_
  | with_reducible refine mx_isdigit ?_
  | with_reducible refine mx_startswith ?_
  | with_reducible refine ix_any ?_
  | with_reducible refine And.intro (Nat.le_of_ble_eq_true rfl) ?_
  | refine Exists.intro _ (And.intro rfl ?_))
local macro_rules | `(tactic| walk_at "w") => `(tactic| repeat (walk_at "w1"))
section
variable {P : Program} {w : World} {K : PySem.W.Frag} {mg : Str → Option Value} {base : Heap} {C WE BP BT NC BJ S BW TM TF BS UN NP UF DP DF J UR SC JC CG RB RS FJ f g : Addr} {fd : FuncData}
open PySem.Spec PyProof.Rows in
theorem ok_told_JC {f f2 cc cda : Addr} {od an cdd cld : Option Addr} {oc kV dc pm ct ccl cl : Value} {sl ccs csl : Array (Option Value)} {vs0 : Array Value} {file : Str} {tf : Tok} {cdD : ClassData}
    (lk : K.lookup f = some ⟨oc, od, .func (PySem.W.ksFn "told" "JointCount.told" (defArgs si_told_JC) (defBody si_told_JC) (defScope si_told_JC) .none kV dc pm an (.ref cda) ct cc), sl⟩)
    (hcd : PySem.W.codeIn K (.ref cda) "JointCount.told" = true) (hcode : K.lookup cda = some ⟨ccl, cdd, .fields vs0, ccs⟩) (hvs : vs0[2]? = some (.str file tf)) (hfile : ((P.main.file : Str) == file) = true) (hcell : K.lookup cc = some ⟨cl, cld, .cell (some (.ref JC)), csl⟩)
    (hD : PySem.W.clsIn K JC = some cdD) (hsub : PySem.W.mroIn K JC (.ref JC) = some true) (hsuper : mg "super" = none) (htop : (P.main.scope.names.lookup ("super" : Str)).isSome = false) (hop : PySem.W.nsIn K cStatics "thirdparty.any" = some none)
    (hsi : PySem.W.ks_superIn K JC JC "told" = some (some (.ref f2))) (ht : PySem.W.typeIn K (.ref f2) = some (.type "function")) (hfn : PySem.W.fnIn K f2 = true) (F2 : FnR P w K mg base CX0 1 f2 (spToldA K))  :
    FnR P w K mg base CX0 2 f (spToldJC K JC) := by
  refine told_of (fn_sup (mg := mg)  lk hcd (NdefX.nscope_by (by decide +kernel)) rfl rfl rfl rfl (fun u => rfl) hcode hvs hfile hcell hD hsub hsuper htop hop hsi ht hfn (fun env => rfl) F2 (fun A outer s H E => pe_str)) (fun x => ⟨_, rfl⟩) ?_
  intro x M hx
  exact ex_str (rx_add_str (by decide) ⟨rfl, rfl⟩)
end
end Wk
namespace Wk
open PySem L2 Evl
local macro_rules | `(tactic| walk_at "w1") => `(tactic| first
  | ((with_reducible refine' ex_var ?hv ?_); (case hv => rfl))
  | ((with_reducible refine' rx_ix_tup ?hv ?_); (case hv => rfl))
  | ((with_reducible refine' rx_ix_lst ?hv ?_); (case hv => rfl))
  | ((with_reducible refine' gx_tup ?hv ?_); (case hv => rfl))
  | ((with_reducible refine' rx_ix_cell ?hm ?hv ?_); (case hm => first | assumption | exact put_same); (case hv => rfl))
  | ((with_reducible refine' cx_len_cell ?hm ?_); (case hm => first | assumption | exact put_same))
  | ((with_reducible refine' rx_Ii ?hc ?_); (case hc => first | assumption | exact ⟨by decide, by decide +kernel⟩ | (show (0 : Int) < _; omega) | (show (0 : Int) < _; decide)))
  | ((with_reducible refine' rx_mul_int ?hc ?_); (case hc => first | assumption | exact cmul_l (by decide) (by decide) | exact cmul_r (by decide) (by decide)))
  | with_reducible refine ex_int ?_
  | with_reducible refine ex_str ?_
  | with_reducible refine ex_bl ?_
  | with_reducible refine ex_non ?_
  | with_reducible refine ex_raw ?_
  | with_reducible refine ex_op ?_
  | with_reducible refine ex_un ?_
  | with_reducible refine ex_cb ?_
  | with_reducible refine ex_tup ?_
  | with_reducible refine ex_sl ?_
  | with_reducible refine ox_none ?_
  | with_reducible refine ox_some ?_
  | with_reducible refine ax_nil ?_
  | with_reducible refine ax_cons ?_
  | with_reducible refine ex_if ?_
  | with_reducible refine ex_andV ?_
  | with_reducible refine ex_orV ?_
  | with_reducible refine ex_notV ?_
  | with_reducible refine ex_m0 ?_
  | with_reducible refine ex_m1 ?_
  | with_reducible refine tx_test ?_
  | with_reducible refine tx_B ?_
  | with_reducible refine tx_and ?_
  | with_reducible refine tx_or ?_
  | with_reducible refine tx_not ?_
  | with_reducible refine tx_yes ?_
  | with_reducible refine sx_seq ?_
  | with_reducible refine sx_set ?_
  | with_reducible refine sx_ret ?_
  | with_reducible refine sx_drop ?_
  | with_reducible refine sx_next ?_
  | with_reducible refine sx_if ?_
  | with_reducible refine sx_retN ?_
  | with_reducible refine sx_asg ?_
  | with_reducible refine sx_par ?_
  | with_reducible refine gx_name ?_
  | with_reducible refine gxs_cons ?_
  | with_reducible refine gxs_nil ?_
  | with_reducible refine rx_add_int ?_
  | with_reducible refine rx_I0i ?_
  | with_reducible refine rx_I0b ?_
  | with_reducible refine rx_eq_int ?_
  | with_reducible refine rx_ne_int ?_
  | with_reducible refine rx_eq_str ?_
  | with_reducible refine rx_ne_str ?_
  | with_reducible refine rx_eq_bl ?_
  | with_reducible refine rx_ne_bl ?_
  | with_reducible refine lx_tup ?_
  | with_reducible refine lx_lst ?_
  | with_reducible refine cx_len_tup ?_
  | with_reducible refine cx_len_lst ?_
  | with_reducible refine cx_len_frl ?_
  | with_reducible refine cx_max2 ?_
  | with_reducible refine ux_neg ?_
  | with_reducible refine cx_list_lst ?_
  | with_reducible refine cx_tuple_lst ?_
  | with_reducible refine cx_tuple_tup ?_
  | with_reducible refine mx_isdigit ?_
  | with_reducible refine mx_startswith ?_
  | with_reducible refine ix_any ?_
  | with_reducible refine And.intro (Nat.le_of_ble_eq_true rfl) ?_
  | refine Exists.intro _ (And.intro rfl ?_))
local macro_rules | `(tactic| walk_at "w") => `(tactic| repeat (walk_at "w1"))
section
variable {P : Program} {w : World} {K : PySem.W.Frag} {mg : Str → Option Value} {base : Heap} {C WE BP BT NC BJ S BW TM TF BS UN NP UF DP DF J UR SC JC CG RB RS FJ f g : Addr} {fd : FuncData}
open PySem.Spec PyProof.Rows in
theorem ok_told_SC {f f2 cc cda : Addr} {od an cdd cld : Option Addr} {oc kV dc pm ct ccl cl : Value} {sl ccs csl : Array (Option Value)} {vs0 : Array Value} {file : Str} {tf : Tok} {cdD : ClassData}
    (lk : K.lookup f = some ⟨oc, od, .func (PySem.W.ksFn "told" "StickCount.told" (defArgs si_told_SC) (defBody si_told_SC) (defScope si_told_SC) .none kV dc pm an (.ref cda) ct cc), sl⟩)
    (hcd : PySem.W.codeIn K (.ref cda) "StickCount.told" = true) (hcode : K.lookup cda = some ⟨ccl, cdd, .fields vs0, ccs⟩) (hvs : vs0[2]? = some (.str file tf)) (hfile : ((P.main.file : Str) == file) = true) (hcell : K.lookup cc = some ⟨cl, cld, .cell (some (.ref SC)), csl⟩)
    (hD : PySem.W.clsIn K SC = some cdD) (hsub : PySem.W.mroIn K SC (.ref SC) = some true) (hsuper : mg "super" = none) (htop : (P.main.scope.names.lookup ("super" : Str)).isSome = false) (hop : PySem.W.nsIn K cStatics "thirdparty.any" = some none)
    (hsi : PySem.W.ks_superIn K SC SC "told" = some (some (.ref f2))) (ht : PySem.W.typeIn K (.ref f2) = some (.type "function")) (hfn : PySem.W.fnIn K f2 = true) (F2 : FnR P w K mg base CX0 1 f2 (spToldA K)) (TR : TxR K mg JC SC CG) :
    FnR P w K mg base CX0 2 f (spToldSC K SC) := by
  refine told_of (fn_sup (mg := mg) (te := fun σ H Q => tJs [(tC (.str ": stick ")), (tFmt (tOp (rIx K) (tFld K (tVar 0) "stick") (tC (.int 0)))), (tC (.str ",")), (tFmt (tOp (rIx K) (tFld K (tVar 0) "stick") (tC (.int 1))))] Str.empty σ H fun out H1 => Q (.str out) H1) lk hcd (NdefX.nscope_by (by decide +kernel)) rfl rfl rfl rfl (fun u => rfl) hcode hvs hfile hcell hD hsub hsuper htop hop hsi ht hfn (fun env => rfl) F2 (fun A outer s H E => (pe_joined (PJ.cons pe_str (PJ.cons (pe_fmt (pe_ix ix_seq (pe_fld (pv 0) rfl) pe_int (fun _ _ => rfl))) (PJ.cons pe_str (PJ.cons (pe_fmt (pe_ix ix_seq (pe_fld (pv 0) rfl) pe_int (fun _ _ => rfl))) PJ.nil))))))) (fun x => ⟨_, rfl⟩) ?_
  intro x M hx
  have hs : 4000 ≤ sizeLine := Nat.le_of_ble_eq_true rfl
  have le : ∀ {a b : Str} {m n : Nat}, a.length ≤ m → b.length ≤ n → (a ++ b).length ≤ m + n := fun h1 h2 => by
    rw [PySem.Str.length_append]
    exact Nat.add_le_add h1 h2
  have z0 : (Str.empty : Str).length ≤ 0 := Nat.le_refl _
  have z1 := le z0 (show (": stick " : Str).length ≤ 8 by decide +kernel)
  have z2 := le z1 (wI_len (Nat.lt_of_lt_of_le hx.1 (Nat.pow_le_pow_right (by decide) (by decide : 900 ≤ 1000))))
  have z3 := le z2 (show ("," : Str).length ≤ 1 by decide +kernel)
  have z4 := le z3 (wI_len (Nat.lt_of_lt_of_le hx.2 (Nat.pow_le_pow_right (by decide) (by decide : 900 ≤ 1000))))
  refine ex_joined (jx_cons (ex_str ⟨_, rfl, Nat.le_trans z1 (Nat.le_trans (by decide) hs), jx_cons (ex_fmtI (ex_op (ex_fld (ex_var rfl ⟨SC, _, _, rfl, TR.clS, TR.nS, rfl, ex_int (rx_ix_tup rfl ⟨_, rfl, log_lt (Nat.lt_of_lt_of_le hx.1 (Nat.pow_le_pow_right (by decide) (by decide : 900 ≤ 1000))), _, rfl, Nat.le_trans z2 (Nat.le_trans (by decide) hs), jx_cons (ex_str ⟨_, rfl, Nat.le_trans z3 (Nat.le_trans (by decide) hs), jx_cons (ex_fmtI (ex_op (ex_fld (ex_var rfl ⟨SC, _, _, rfl, TR.clS, TR.nS, rfl, ex_int (rx_ix_tup rfl ⟨_, rfl, log_lt (Nat.lt_of_lt_of_le hx.2 (Nat.pow_le_pow_right (by decide) (by decide : 900 ≤ 1000))), _, rfl, Nat.le_trans z4 (Nat.le_trans (by decide) hs), jx_nil (rx_add_str (Nat.le_trans (Nat.add_le_add (show ("unreachable" : Str).length ≤ 11 by decide +kernel) z4) (Nat.le_trans (by decide) hs)) ⟨?_, rfl⟩)⟩)⟩))))⟩)⟩)⟩))))⟩))
  rw [str_nil] <;> rfl
end
end Wk
namespace Wk
open PySem L2 Evl
local macro_rules | `(tactic| walk_at "w1") => `(tactic| first
  | ((with_reducible refine' ex_var ?hv ?_); (case hv => rfl))
  | ((with_reducible refine' rx_ix_tup ?hv ?_); (case hv => rfl))
  | ((with_reducible refine' rx_ix_lst ?hv ?_); (case hv => rfl))
  | ((with_reducible refine' gx_tup ?hv ?_); (case hv => rfl))
  | ((with_reducible refine' rx_ix_cell ?hm ?hv ?_); (case hm => first | assumption | exact put_same); (case hv => rfl))
  | ((with_reducible refine' cx_len_cell ?hm ?_); (case hm => first | assumption | exact put_same))
  | ((with_reducible refine' rx_Ii ?hc ?_); (case hc => first | assumption | exact ⟨by decide, by decide +kernel⟩ | (show (0 : Int) < _; omega) | (show (0 : Int) < _; decide)))
  | ((with_reducible refine' rx_mul_int ?hc ?_); (case hc => first | assumption | exact cmul_l (by decide) (by decide) | exact cmul_r (by decide) (by decide)))
  | with_reducible refine ex_int ?_
  | with_reducible refine ex_str ?_
  | with_reducible refine ex_bl ?_
  | with_reducible refine ex_non ?_
  | with_reducible refine ex_raw ?_
  | with_reducible refine ex_op ?_
  | with_reducible refine ex_un ?_
  | with_reducible refine ex_cb ?_
  | with_reducible refine ex_tup ?_
  | with_reducible refine ex_sl ?_
  | with_reducible refine ox_none ?_
  | with_reducible refine ox_some ?_
  | with_reducible refine ax_nil ?_
  | with_reducible refine ax_cons ?_
  | with_reducible refine ex_if ?_
  | with_reducible refine ex_andV ?_
  | with_reducible refine ex_orV ?_
  | with_reducible refine ex_notV ?_
  | with_reducible refine ex_m0 ?_
  | with_reducible refine ex_m1 ?_
  | with_reducible refine tx_test ?_
  | with_reducible refine tx_B ?_
  | with_reducible refine tx_and ?_
  | with_reducible refine tx_or ?_
  | with_reducible refine tx_not ?_
  | with_reducible refine tx_yes ?_
  | with_reducible refine sx_seq ?_
  | with_reducible refine sx_set ?_
  | with_reducible refine sx_ret ?_
  | with_reducible refine sx_drop ?_
  | with_reducible refine sx_next ?_
  | with_reducible refine sx_if ?_
  | with_reducible refine sx_retN ?_
  | with_reducible refine sx_asg ?_
  | with_reducible refine sx_par ?_
  | with_reducible refine gx_name ?_
  | with_reducible refine gxs_cons ?_
  | with_reducible refine gxs_nil ?_
  | with_reducible refine rx_add_int ?_
  | with_reducible refine rx_I0i ?_
  | with_reducible refine rx_I0b ?_
  | with_reducible refine rx_eq_int ?_
  | with_reducible refine rx_ne_int ?_
  | with_reducible refine rx_eq_str ?_
  | with_reducible refine rx_ne_str ?_
  | with_reducible refine rx_eq_bl ?_
  | with_reducible refine rx_ne_bl ?_
  | with_reducible refine lx_tup ?_
  | with_reducible refine lx_lst ?_
  | with_reducible refine cx_len_tup ?_
  | with_reducible refine cx_len_lst ?_
  | with_reducible refine cx_len_frl ?_
  | with_reducible refine cx_max2 ?_
  | with_reducible refine ux_neg ?_
  | with_reducible refine cx_list_lst ?_
  | with_reducible refine cx_tuple_lst ?_
  | with_reducible refine cx_tuple_tup ?_
  | with_reducible refine mx_isdigit ?_
  | with_reducible refine mx_startswith ?_
  | with_reducible refine ix_any ?_
  | with_reducible refine And.intro (Nat.le_of_ble_eq_true rfl) ?_
  | refine Exists.intro _ (And.intro rfl ?_))
local macro_rules | `(tactic| walk_at "w") => `(tactic| repeat (walk_at "w1"))
section
variable {P : Program} {w : World} {K : PySem.W.Frag} {mg : Str → Option Value} {base : Heap} {C WE BP BT NC BJ S BW TM TF BS UN NP UF DP DF J UR SC JC CG RB RS FJ f g : Addr} {fd : FuncData}
open PySem.Spec PyProof.Rows in
theorem ok_told_CG {f f2 cc cda : Addr} {od an cdd cld : Option Addr} {oc kV dc pm ct ccl cl : Value} {sl ccs csl : Array (Option Value)} {vs0 : Array Value} {file : Str} {tf : Tok} {cdD : ClassData}
    (lk : K.lookup f = some ⟨oc, od, .func (PySem.W.ksFn "told" "Congruence.told" (defArgs si_told_CG) (defBody si_told_CG) (defScope si_told_CG) .none kV dc pm an (.ref cda) ct cc), sl⟩)
    (hcd : PySem.W.codeIn K (.ref cda) "Congruence.told" = true) (hcode : K.lookup cda = some ⟨ccl, cdd, .fields vs0, ccs⟩) (hvs : vs0[2]? = some (.str file tf)) (hfile : ((P.main.file : Str) == file) = true) (hcell : K.lookup cc = some ⟨cl, cld, .cell (some (.ref CG)), csl⟩)
    (hD : PySem.W.clsIn K CG = some cdD) (hsub : PySem.W.mroIn K CG (.ref CG) = some true) (hsuper : mg "super" = none) (htop : (P.main.scope.names.lookup ("super" : Str)).isSome = false) (hop : PySem.W.nsIn K cStatics "thirdparty.any" = some none)
    (hsi : PySem.W.ks_superIn K CG CG "told" = some (some (.ref f2))) (ht : PySem.W.typeIn K (.ref f2) = some (.type "function")) (hfn : PySem.W.fnIn K f2 = true) (F2 : FnR P w K mg base CX0 1 f2 (spToldA K)) (TR : TxR K mg JC SC CG) :
    FnR P w K mg base CX0 2 f (spToldCG K CG) := by
  refine told_of (fn_sup (mg := mg) (te := fun σ H Q => tJs [(tC (.str ": ")), (tFmt (tFld K (tVar 0) "a")), (tC (.str "*x + ")), (tFmt (tFld K (tVar 0) "b")), (tC (.str "*y modulo ")), (tFmt (tFld K (tVar 0) "modulus"))] Str.empty σ H fun out H1 => Q (.str out) H1) lk hcd (NdefX.nscope_by (by decide +kernel)) rfl rfl rfl rfl (fun u => rfl) hcode hvs hfile hcell hD hsub hsuper htop hop hsi ht hfn (fun env => rfl) F2 (fun A outer s H E => (pe_joined (PJ.cons pe_str (PJ.cons (pe_fmt (pe_fld (pv 0) rfl)) (PJ.cons pe_str (PJ.cons (pe_fmt (pe_fld (pv 0) rfl)) (PJ.cons pe_str (PJ.cons (pe_fmt (pe_fld (pv 0) rfl)) PJ.nil))))))))) (fun x => ⟨_, rfl⟩) ?_
  intro x M hx
  have hs : 4000 ≤ sizeLine := Nat.le_of_ble_eq_true rfl
  have le : ∀ {a b : Str} {m n : Nat}, a.length ≤ m → b.length ≤ n → (a ++ b).length ≤ m + n := fun h1 h2 => by
    rw [PySem.Str.length_append]
    exact Nat.add_le_add h1 h2
  have z0 : (Str.empty : Str).length ≤ 0 := Nat.le_refl _
  have z1 := le z0 (show (": " : Str).length ≤ 2 by decide +kernel)
  have z2 := le z1 (wI_len (Nat.lt_of_lt_of_le hx.1 (Nat.pow_le_pow_right (by decide) (by decide : 990 ≤ 1000))))
  have z3 := le z2 (show ("*x + " : Str).length ≤ 5 by decide +kernel)
  have z4 := le z3 (wI_len (Nat.lt_of_lt_of_le hx.2.1 (Nat.pow_le_pow_right (by decide) (by decide : 990 ≤ 1000))))
  have z5 := le z4 (show ("*y modulo " : Str).length ≤ 10 by decide +kernel)
  have z6 := le z5 (wI_len (Nat.lt_of_lt_of_le hx.2.2 (Nat.pow_le_pow_right (by decide) (by decide : 990 ≤ 1000))))
  refine ex_joined (jx_cons (ex_str ⟨_, rfl, Nat.le_trans z1 (Nat.le_trans (by decide) hs), jx_cons (ex_fmtI (ex_fld (ex_var rfl ⟨CG, _, _, rfl, TR.clC, TR.nA, rfl, ⟨_, rfl, log_lt (Nat.lt_of_lt_of_le hx.1 (Nat.pow_le_pow_right (by decide) (by decide : 990 ≤ 1000))), _, rfl, Nat.le_trans z2 (Nat.le_trans (by decide) hs), jx_cons (ex_str ⟨_, rfl, Nat.le_trans z3 (Nat.le_trans (by decide) hs), jx_cons (ex_fmtI (ex_fld (ex_var rfl ⟨CG, _, _, rfl, TR.clC, TR.nB, rfl, ⟨_, rfl, log_lt (Nat.lt_of_lt_of_le hx.2.1 (Nat.pow_le_pow_right (by decide) (by decide : 990 ≤ 1000))), _, rfl, Nat.le_trans z4 (Nat.le_trans (by decide) hs), jx_cons (ex_str ⟨_, rfl, Nat.le_trans z5 (Nat.le_trans (by decide) hs), jx_cons (ex_fmtI (ex_fld (ex_var rfl ⟨CG, _, _, rfl, TR.clC, TR.nM, rfl, ⟨_, rfl, log_lt (Nat.lt_of_lt_of_le hx.2.2 (Nat.pow_le_pow_right (by decide) (by decide : 990 ≤ 1000))), _, rfl, Nat.le_trans z6 (Nat.le_trans (by decide) hs), jx_nil (rx_add_str (Nat.le_trans (Nat.add_le_add (show ("unreachable" : Str).length ≤ 11 by decide +kernel) z6) (Nat.le_trans (by decide) hs)) ⟨?_, rfl⟩)⟩⟩)))⟩)⟩⟩)))⟩)⟩⟩)))⟩))
  rw [str_nil] <;> rfl
end
end Wk
namespace Wk
open PySem L2 Evl
local macro_rules | `(tactic| walk_at "w1") => `(tactic| first
  | ((with_reducible refine' ex_var ?hv ?_); (case hv => rfl))
  | ((with_reducible refine' rx_ix_tup ?hv ?_); (case hv => rfl))
  | ((with_reducible refine' rx_ix_lst ?hv ?_); (case hv => rfl))
  | ((with_reducible refine' gx_tup ?hv ?_); (case hv => rfl))
  | ((with_reducible refine' rx_ix_cell ?hm ?hv ?_); (case hm => first | assumption | exact put_same); (case hv => rfl))
  | ((with_reducible refine' cx_len_cell ?hm ?_); (case hm => first | assumption | exact put_same))
  | ((with_reducible refine' rx_Ii ?hc ?_); (case hc => first | assumption | exact ⟨by decide, by decide +kernel⟩ | (show (0 : Int) < _; omega) | (show (0 : Int) < _; decide)))
  | ((with_reducible refine' rx_mul_int ?hc ?_); (case hc => first | assumption | exact cmul_l (by decide) (by decide) | exact cmul_r (by decide) (by decide)))
  | with_reducible refine ex_int ?_
  | with_reducible refine ex_str ?_
  | with_reducible refine ex_bl ?_
  | with_reducible refine ex_non ?_
  | with_reducible refine ex_raw ?_
  | with_reducible refine ex_op ?_
  | with_reducible refine ex_un ?_
  | with_reducible refine ex_cb ?_
  | with_reducible refine ex_tup ?_
  | with_reducible refine ex_sl ?_
  | with_reducible refine ox_none ?_
  | with_reducible refine ox_some ?_
  | with_reducible refine ax_nil ?_
  | with_reducible refine ax_cons ?_
  | with_reducible refine ex_if ?_
  | with_reducible refine ex_andV ?_
  | with_reducible refine ex_orV ?_
  | with_reducible refine ex_notV ?_
  | with_reducible refine ex_m0 ?_
  | with_reducible refine ex_m1 ?_
  | with_reducible refine tx_test ?_
  | with_reducible refine tx_B ?_
  | with_reducible refine tx_and ?_
  | with_reducible refine tx_or ?_
  | with_reducible refine tx_not ?_
  | with_reducible refine tx_yes ?_
  | with_reducible refine sx_seq ?_
  | with_reducible refine sx_set ?_
  | with_reducible refine sx_ret ?_
  | with_reducible refine sx_drop ?_
  | with_reducible refine sx_next ?_
  | with_reducible refine sx_if ?_
  | with_reducible refine sx_retN ?_
  | with_reducible refine sx_asg ?_
  | with_reducible refine sx_par ?_
  | with_reducible refine gx_name ?_
  | with_reducible refine gxs_cons ?_
  | with_reducible refine gxs_nil ?_
  | with_reducible refine rx_add_int ?_
  | with_reducible refine rx_I0i ?_
  | with_reducible refine rx_I0b ?_
  | with_reducible refine rx_eq_int ?_
  | with_reducible refine rx_ne_int ?_
  | with_reducible refine rx_eq_str ?_
  | with_reducible refine rx_ne_str ?_
  | with_reducible refine rx_eq_bl ?_
  | with_reducible refine rx_ne_bl ?_
  | with_reducible refine lx_tup ?_
  | with_reducible refine lx_lst ?_
  | with_reducible refine cx_len_tup ?_
  | with_reducible refine cx_len_lst ?_
  | with_reducible refine cx_len_frl ?_
  | with_reducible refine cx_max2 ?_
  | with_reducible refine ux_neg ?_
  | with_reducible refine cx_list_lst ?_
  | with_reducible refine cx_tuple_lst ?_
  | with_reducible refine cx_tuple_tup ?_
  | with_reducible refine mx_isdigit ?_
  | with_reducible refine mx_startswith ?_
  | with_reducible refine ix_any ?_
  | with_reducible refine And.intro (Nat.le_of_ble_eq_true rfl) ?_
  | refine Exists.intro _ (And.intro rfl ?_))
local macro_rules | `(tactic| walk_at "w") => `(tactic| repeat (walk_at "w1"))
section
variable {P : Program} {w : World} {K : PySem.W.Frag} {mg : Str → Option Value} {base : Heap} {C WE BP BT NC BJ S BW TM TF BS UN NP UF DP DF J UR SC JC CG RB RS FJ f g : Addr} {fd : FuncData}
theorem ok_eqRS {f : Addr} {fd : FuncData} (F : Fun K "__eq__" "Reason.__eq__" s_Reason_eq f fd) (T : Tx K mg C) (TRs : TxRs K mg RS JC SC CG) : FnOk P w K mg base CX0 1 f fd ["self", "other"] (spEqT K RS JC SC CG 0) := by
  refine F.ok sc_Reason_eq (spD_len (n := 2) (fun x ds M h => by rw [h.1] <;> rfl)) (fun cdv A outer s H vs Q E hr h => ⟨_, (pss_one (ps_ret (pe_and (pe_either (pe_cmpR op_is_cls (pe_callTy cr_type (by rfl) TRs.nt (by decide +kernel) (pa_cons (pv 1) pa_nil)) (pe_glob (v := .ref RS) rfl TRs.gR rfl) (nomark _)) (pe_cmpR ItX.op_isK (pe_callTy RZ.call_type4 (by rfl) TRs.nt (by decide +kernel) (pa_cons (pv 1) pa_nil)) (pe_glob (v := .ref RS) rfl TRs.gR rfl) (nomark _))) (pe_one (pe_cmpR op_is_cls (pe_callTy cr_type (by rfl) TRs.nt (by decide +kernel) (pa_cons (pv 0) pa_nil)) (pe_glob (v := .ref RS) rfl TRs.gR rfl) (nomark _)))))), enter h ?_⟩)
  try dsimp only [cxOf, Cx.nox, Cx.wish]
  rintro ⟨r, s⟩ ds M ⟨rfl, ht, h0⟩
  cases r with
  | rs =>
    cases s with
    | inl s =>
      obtain rfl := h0 rfl s rfl
      refine sx_ret (ex_andV (ex_eitherL (ex_op (ex_cb (ax_cons (ex_var rfl (ax_nil (cx_typeO (ex_raw (rx_isCls rfl ⟨true, rfl, fun _ => ?_, fun h => by cases h⟩))))))))))
      refine ex_op (ex_cb (ax_cons (ex_var rfl (ax_nil (cx_typeO (ex_raw (rx_isCls rfl (ret_pure rfl (Sub.refl M)))))))))
    | inr y =>
      refine sx_ret (ex_andV (ex_eitherR (ex_op (ex_cb (ax_cons (ex_var rfl (ax_nil (cx_typeS (ex_raw (rx_isTy TRs.lkR ⟨false, rfl, (fun h => by cases h), fun _ => ret_pure rfl (Sub.refl M)⟩))))))))))
  | jc => cases ht
  | sc v => cases ht
  | cg c => cases ht
end
end Wk
namespace Wk
open PySem L2 Evl
local macro_rules | `(tactic| walk_at "w1") => `(tactic| first
  | ((with_reducible refine' ex_var ?hv ?_); (case hv => rfl))
  | ((with_reducible refine' rx_ix_tup ?hv ?_); (case hv => rfl))
  | ((with_reducible refine' rx_ix_lst ?hv ?_); (case hv => rfl))
  | ((with_reducible refine' gx_tup ?hv ?_); (case hv => rfl))
  | ((with_reducible refine' rx_ix_cell ?hm ?hv ?_); (case hm => first | assumption | exact put_same); (case hv => rfl))
  | ((with_reducible refine' cx_len_cell ?hm ?_); (case hm => first | assumption | exact put_same))
  | ((with_reducible refine' rx_Ii ?hc ?_); (case hc => first | assumption | exact ⟨by decide, by decide +kernel⟩ | (show (0 : Int) < _; omega) | (show (0 : Int) < _; decide)))
  | ((with_reducible refine' rx_mul_int ?hc ?_); (case hc => first | assumption | exact cmul_l (by decide) (by decide) | exact cmul_r (by decide) (by decide)))
  | with_reducible refine ex_int ?_
  | with_reducible refine ex_str ?_
  | with_reducible refine ex_bl ?_
  | with_reducible refine ex_non ?_
  | with_reducible refine ex_raw ?_
  | with_reducible refine ex_op ?_
  | with_reducible refine ex_un ?_
  | with_reducible refine ex_cb ?_
  | with_reducible refine ex_tup ?_
  | with_reducible refine ex_sl ?_
  | with_reducible refine ox_none ?_
  | with_reducible refine ox_some ?_
  | with_reducible refine ax_nil ?_
  | with_reducible refine ax_cons ?_
  | with_reducible refine ex_if ?_
  | with_reducible refine ex_andV ?_
  | with_reducible refine ex_orV ?_
  | with_reducible refine ex_notV ?_
  | with_reducible refine ex_m0 ?_
  | with_reducible refine ex_m1 ?_
  | with_reducible refine tx_test ?_
  | with_reducible refine tx_B ?_
  | with_reducible refine tx_and ?_
  | with_reducible refine tx_or ?_
  | with_reducible refine tx_not ?_
  | with_reducible refine tx_yes ?_
  | with_reducible refine sx_seq ?_
  | with_reducible refine sx_set ?_
  | with_reducible refine sx_ret ?_
  | with_reducible refine sx_drop ?_
  | with_reducible refine sx_next ?_
  | with_reducible refine sx_if ?_
  | with_reducible refine sx_retN ?_
  | with_reducible refine sx_asg ?_
  | with_reducible refine sx_par ?_
  | with_reducible refine gx_name ?_
  | with_reducible refine gxs_cons ?_
  | with_reducible refine gxs_nil ?_
  | with_reducible refine rx_add_int ?_
  | with_reducible refine rx_I0i ?_
  | with_reducible refine rx_I0b ?_
  | with_reducible refine rx_eq_int ?_
  | with_reducible refine rx_ne_int ?_
  | with_reducible refine rx_eq_str ?_
  | with_reducible refine rx_ne_str ?_
  | with_reducible refine rx_eq_bl ?_
  | with_reducible refine rx_ne_bl ?_
  | with_reducible refine lx_tup ?_
  | with_reducible refine lx_lst ?_
  | with_reducible refine cx_len_tup ?_
  | with_reducible refine cx_len_lst ?_
  | with_reducible refine cx_len_frl ?_
  | with_reducible refine cx_max2 ?_
  | with_reducible refine ux_neg ?_
  | with_reducible refine cx_list_lst ?_
  | with_reducible refine cx_tuple_lst ?_
  | with_reducible refine cx_tuple_tup ?_
  | with_reducible refine mx_isdigit ?_
  | with_reducible refine mx_startswith ?_
  | with_reducible refine ix_any ?_
  | with_reducible refine And.intro (Nat.le_of_ble_eq_true rfl) ?_
  | refine Exists.intro _ (And.intro rfl ?_))
local macro_rules | `(tactic| walk_at "w") => `(tactic| repeat (walk_at "w1"))
section
variable {P : Program} {w : World} {K : PySem.W.Frag} {mg : Str → Option Value} {base : Heap} {C WE BP BT NC BJ S BW TM TF BS UN NP UF DP DF J UR SC JC CG RB RS FJ f g : Addr} {fd : FuncData}
theorem ok_eqJC {f : Addr} {fd : FuncData} (F : Fun K "__eq__" "JointCount.__eq__" s_JointCount_eq f fd) (T : Tx K mg C) (TRs : TxRs K mg RS JC SC CG) (TR : TxR K mg JC SC CG) (TR2 : TxR2 K JC SC CG) : FnOk P w K mg base CX0 1 f fd ["self", "other"] (spEqT K RS JC SC CG 1) := by
  refine F.ok sc_JointCount_eq (spD_len (n := 2) (fun x ds M h => by rw [h.1] <;> rfl)) (fun cdv A outer s H vs Q E hr h => ⟨_, (pss_cons (ps_if (pt_not (pt_val (pe_callB (call_isiKK (K := K) rfl) (by rfl) T.n_isinstance (by decide +kernel) (pa_cons (pv 1) (pa_cons (pe_glob (v := .ref JC) rfl TR.gJ rfl) pa_nil))))) (pss_one (ps_ret pe_bl)) pss_nil) (pss_one (ps_ret pe_bl))), enter h ?_⟩)
  try dsimp only [cxOf, Cx.nox, Cx.wish]
  rintro ⟨r, s⟩ ds M ⟨rfl, ht, h0⟩
  cases r with
  | jc =>
    refine sx_seq (sx_if (tx_not ?_))
    walk_at "w"
    cases s with
    | inl s =>
      cases s with
      | rs =>
        refine cx_isi TRs.isR TRs.kRJ ?_
        walk_at "w"
        refine ⟨fun _ => sx_ret (ex_bl (ret_pure rfl (Sub.refl M))), (fun h => by cases h)⟩
      | jc =>
        refine cx_isi TR.isJ TR.kJ ?_
        walk_at "w"
        refine ⟨(fun h => by cases h), fun _ => sx_next (sx_ret (ex_bl (ret_pure rfl (Sub.refl M))))⟩
      | sc u =>
        refine cx_isi TR.isS TR2.kSJ ?_
        walk_at "w"
        refine ⟨fun _ => sx_ret (ex_bl (ret_pure rfl (Sub.refl M))), (fun h => by cases h)⟩
      | cg u =>
        refine cx_isi TR.isC TR2.kCJ ?_
        walk_at "w"
        refine ⟨fun _ => sx_ret (ex_bl (ret_pure rfl (Sub.refl M))), (fun h => by cases h)⟩
    | inr y =>
      refine cx_isiN (.str y) TRs.kTJ ?_
      walk_at "w"
      refine ⟨fun _ => sx_ret (ex_bl (ret_pure rfl (Sub.refl M))), (fun h => by cases h)⟩
  | rs => cases ht
  | sc v => cases ht
  | cg c => cases ht
end
end Wk
namespace Wk
open PySem L2 Evl
local macro_rules | `(tactic| walk_at "w1") => `(tactic| first
  | ((with_reducible refine' ex_var ?hv ?_); (case hv => rfl))
  | ((with_reducible refine' rx_ix_tup ?hv ?_); (case hv => rfl))
  | ((with_reducible refine' rx_ix_lst ?hv ?_); (case hv => rfl))
  | ((with_reducible refine' gx_tup ?hv ?_); (case hv => rfl))
  | ((with_reducible refine' rx_ix_cell ?hm ?hv ?_); (case hm => first | assumption | exact put_same); (case hv => rfl))
  | ((with_reducible refine' cx_len_cell ?hm ?_); (case hm => first | assumption | exact put_same))
  | ((with_reducible refine' rx_Ii ?hc ?_); (case hc => first | assumption | exact ⟨by decide, by decide +kernel⟩ | (show (0 : Int) < _; omega) | (show (0 : Int) < _; decide)))
  | ((with_reducible refine' rx_mul_int ?hc ?_); (case hc => first | assumption | exact cmul_l (by decide) (by decide) | exact cmul_r (by decide) (by decide)))
  | with_reducible refine ex_int ?_
  | with_reducible refine ex_str ?_
  | with_reducible refine ex_bl ?_
  | with_reducible refine ex_non ?_
  | with_reducible refine ex_raw ?_
  | with_reducible refine ex_op ?_
  | with_reducible refine ex_un ?_
  | with_reducible refine ex_cb ?_
  | with_reducible refine ex_tup ?_
  | with_reducible refine ex_sl ?_
  | with_reducible refine ox_none ?_
  | with_reducible refine ox_some ?_
  | with_reducible refine ax_nil ?_
  | with_reducible refine ax_cons ?_
  | with_reducible refine ex_if ?_
  | with_reducible refine ex_andV ?_
  | with_reducible refine ex_orV ?_
  | with_reducible refine ex_notV ?_
  | with_reducible refine ex_m0 ?_
  | with_reducible refine ex_m1 ?_
  | with_reducible refine tx_test ?_
  | with_reducible refine tx_B ?_
  | with_reducible refine tx_and ?_
  | with_reducible refine tx_or ?_
  | with_reducible refine tx_not ?_
  | with_reducible refine tx_yes ?_
  | with_reducible refine sx_seq ?_
  | with_reducible refine sx_set ?_
  | with_reducible refine sx_ret ?_
  | with_reducible refine sx_drop ?_
  | with_reducible refine sx_next ?_
  | with_reducible refine sx_if ?_
  | with_reducible refine sx_retN ?_
  | with_reducible refine sx_asg ?_
  | with_reducible refine sx_par ?_
  | with_reducible refine gx_name ?_
  | with_reducible refine gxs_cons ?_
  | with_reducible refine gxs_nil ?_
  | with_reducible refine rx_add_int ?_
  | with_reducible refine rx_I0i ?_
  | with_reducible refine rx_I0b ?_
  | with_reducible refine rx_eq_int ?_
  | with_reducible refine rx_ne_int ?_
  | with_reducible refine rx_eq_str ?_
  | with_reducible refine rx_ne_str ?_
  | with_reducible refine rx_eq_bl ?_
  | with_reducible refine rx_ne_bl ?_
  | with_reducible refine lx_tup ?_
  | with_reducible refine lx_lst ?_
  | with_reducible refine cx_len_tup ?_
  | with_reducible refine cx_len_lst ?_
  | with_reducible refine cx_len_frl ?_
  | with_reducible refine cx_max2 ?_
  | with_reducible refine ux_neg ?_
  | with_reducible refine cx_list_lst ?_
  | with_reducible refine cx_tuple_lst ?_
  | with_reducible refine cx_tuple_tup ?_
  | with_reducible refine mx_isdigit ?_
  | with_reducible refine mx_startswith ?_
  | with_reducible refine ix_any ?_
  | with_reducible refine And.intro (Nat.le_of_ble_eq_true rfl) ?_
  | refine Exists.intro _ (And.intro rfl ?_))
local macro_rules | `(tactic| walk_at "w") => `(tactic| repeat (walk_at "w1"))
section
variable {P : Program} {w : World} {K : PySem.W.Frag} {mg : Str → Option Value} {base : Heap} {C WE BP BT NC BJ S BW TM TF BS UN NP UF DP DF J UR SC JC CG RB RS FJ f g : Addr} {fd : FuncData}
theorem ok_eqSC {f : Addr} {fd : FuncData} (F : Fun K "__eq__" "StickCount.__eq__" s_StickCount_eq f fd) (T : Tx K mg C) (TRs : TxRs K mg RS JC SC CG) (TR : TxR K mg JC SC CG) (TR2 : TxR2 K JC SC CG) : FnOk P w K mg base CX0 1 f fd ["self", "other"] (spEqT K RS JC SC CG 2) := by
  refine F.ok sc_StickCount_eq (spD_len (n := 2) (fun x ds M h => by rw [h.1] <;> rfl)) (fun cdv A outer s H vs Q E hr h => ⟨_, (pss_one (ps_ret (pe_and (pe_callB (call_isiKK (K := K) rfl) (by rfl) T.n_isinstance (by decide +kernel) (pa_cons (pv 1) (pa_cons (pe_glob (v := .ref SC) rfl TR.gS rfl) pa_nil))) (pe_one (pe_cmpR (op_eqA hr.units) (pe_fld (pv 0) rfl) (pe_fld (pv 1) rfl) (nomark _)))))), enter h ?_⟩)
  try dsimp only [cxOf, Cx.nox, Cx.wish]
  rintro ⟨r, s⟩ ds M ⟨rfl, ht, h0⟩
  cases r with
  | sc v =>
    refine sx_ret (ex_andV ?_)
    walk_at "w"
    cases s with
    | inl s =>
      cases s with
      | rs =>
        refine cx_isi TRs.isR TRs.kRS ?_
        exact ⟨false, rfl, (fun h => by cases h), fun _ => ret_pure rfl (Sub.refl M)⟩
      | jc =>
        refine cx_isi TR.isJ TRs.kJS ?_
        exact ⟨false, rfl, (fun h => by cases h), fun _ => ret_pure rfl (Sub.refl M)⟩
      | sc u =>
        refine cx_isi TR.isS TR.kS ?_
        refine ⟨true, rfl, fun _ => ?_, fun h => by cases h⟩
        refine ex_op (ex_fld (ex_var rfl ⟨SC, _, _, rfl, TR.clS, TR.nS, rfl, ex_fld (ex_var rfl ⟨SC, _, _, rfl, TR.clS, TR.nS, rfl, rx_eqD (plain_p2 v) (plain_p2 u) (ret_pure ?_ (Sub.refl M))⟩)⟩))
        rw [eqB_p2]
        exact congrArg Dt.bl (decide_eq_decide.mpr ⟨fun h => by rw [h], fun h => by cases h; rfl⟩)
      | cg u =>
        refine cx_isi TR.isC TR2.kCS ?_
        exact ⟨false, rfl, (fun h => by cases h), fun _ => ret_pure rfl (Sub.refl M)⟩
    | inr y =>
      refine cx_isiN (.str y) TRs.kTS ?_
      exact ⟨false, rfl, (fun h => by cases h), fun _ => ret_pure rfl (Sub.refl M)⟩
  | rs => cases ht
  | jc => cases ht
  | cg c => cases ht
end
end Wk
namespace Wk
open PySem L2 Evl
local macro_rules | `(tactic| walk_at "w1") => `(tactic| first
  | ((with_reducible refine' ex_var ?hv ?_); (case hv => rfl))
  | ((with_reducible refine' rx_ix_tup ?hv ?_); (case hv => rfl))
  | ((with_reducible refine' rx_ix_lst ?hv ?_); (case hv => rfl))
  | ((with_reducible refine' gx_tup ?hv ?_); (case hv => rfl))
  | ((with_reducible refine' rx_ix_cell ?hm ?hv ?_); (case hm => first | assumption | exact put_same); (case hv => rfl))
  | ((with_reducible refine' cx_len_cell ?hm ?_); (case hm => first | assumption | exact put_same))
  | ((with_reducible refine' rx_Ii ?hc ?_); (case hc => first | assumption | exact ⟨by decide, by decide +kernel⟩ | (show (0 : Int) < _; omega) | (show (0 : Int) < _; decide)))
  | ((with_reducible refine' rx_mul_int ?hc ?_); (case hc => first | assumption | exact cmul_l (by decide) (by decide) | exact cmul_r (by decide) (by decide)))
  | with_reducible refine ex_int ?_
  | with_reducible refine ex_str ?_
  | with_reducible refine ex_bl ?_
  | with_reducible refine ex_non ?_
  | with_reducible refine ex_raw ?_
  | with_reducible refine ex_op ?_
  | with_reducible refine ex_un ?_
  | with_reducible refine ex_cb ?_
  | with_reducible refine ex_tup ?_
  | with_reducible refine ex_sl ?_
  | with_reducible refine ox_none ?_
  | with_reducible refine ox_some ?_
  | with_reducible refine ax_nil ?_
  | with_reducible refine ax_cons ?_
  | with_reducible refine ex_if ?_
  | with_reducible refine ex_andV ?_
  | with_reducible refine ex_orV ?_
  | with_reducible refine ex_notV ?_
  | with_reducible refine ex_m0 ?_
  | with_reducible refine ex_m1 ?_
  | with_reducible refine tx_test ?_
  | with_reducible refine tx_B ?_
  | with_reducible refine tx_and ?_
  | with_reducible refine tx_or ?_
  | with_reducible refine tx_not ?_
  | with_reducible refine tx_yes ?_
  | with_reducible refine sx_seq ?_
  | with_reducible refine sx_set ?_
  | with_reducible refine sx_ret ?_
  | with_reducible refine sx_drop ?_
  | with_reducible refine sx_next ?_
  | with_reducible refine sx_if ?_
  | with_reducible refine sx_retN ?_
  | with_reducible refine sx_asg ?_
  | with_reducible refine sx_par ?_
  | with_reducible refine gx_name ?_
  | with_reducible refine gxs_cons ?_
  | with_reducible refine gxs_nil ?_
  | with_reducible refine rx_add_int ?_
  | with_reducible refine rx_I0i ?_
  | with_reducible refine rx_I0b ?_
  | with_reducible refine rx_eq_int ?_
  | with_reducible refine rx_ne_int ?_
  | with_reducible refine rx_eq_str ?_
  | with_reducible refine rx_ne_str ?_
  | with_reducible refine rx_eq_bl ?_
  | with_reducible refine rx_ne_bl ?_
  | with_reducible refine lx_tup ?_
  | with_reducible refine lx_lst ?_
  | with_reducible refine cx_len_tup ?_
  | with_reducible refine cx_len_lst ?_
  | with_reducible refine cx_len_frl ?_
  | with_reducible refine cx_max2 ?_
  | with_reducible refine ux_neg ?_
  | with_reducible refine cx_list_lst ?_
  | with_reducible refine cx_tuple_lst ?_
  | with_reducible refine cx_tuple_tup ?_
  | with_reducible refine mx_isdigit ?_
  | with_reducible refine mx_startswith ?_
  | with_reducible refine ix_any ?_
  | with_reducible refine And.intro (Nat.le_of_ble_eq_true rfl) ?_
  | refine Exists.intro _ (And.intro rfl ?_))
local macro_rules | `(tactic| walk_at "w") => `(tactic| repeat (walk_at "w1"))
section
variable {P : Program} {w : World} {K : PySem.W.Frag} {mg : Str → Option Value} {base : Heap} {C WE BP BT NC BJ S BW TM TF BS UN NP UF DP DF J UR SC JC CG RB RS FJ f g : Addr} {fd : FuncData}
theorem ok_eqCG {f : Addr} {fd : FuncData} (F : Fun K "__eq__" "Congruence.__eq__" s_Congruence_eq f fd) (T : Tx K mg C) (TRs : TxRs K mg RS JC SC CG) (TR : TxR K mg JC SC CG) (TR2 : TxR2 K JC SC CG) : FnOk P w K mg base CX0 1 f fd ["self", "other"] (spEqT K RS JC SC CG 3) := by
  refine F.ok sc_Congruence_eq (spD_len (n := 2) (fun x ds M h => by rw [h.1] <;> rfl)) (fun cdv A outer s H vs Q E hr h => ⟨_, (pss_one (ps_ret (pe_and (pe_callB (call_isiKK (K := K) rfl) (by rfl) T.n_isinstance (by decide +kernel) (pa_cons (pv 1) (pa_cons (pe_glob (v := .ref CG) rfl TR.gC rfl) pa_nil))) (pe_and (pe_cmpR (op_eqA hr.units) (pe_fld (pv 0) rfl) (pe_fld (pv 1) rfl) (nomark _)) (pe_and (pe_cmpR (op_eqA hr.units) (pe_fld (pv 0) rfl) (pe_fld (pv 1) rfl) (nomark _)) (pe_one (pe_cmpR (op_eqA hr.units) (pe_fld (pv 0) rfl) (pe_fld (pv 1) rfl) (nomark _)))))))), enter h ?_⟩)
  try dsimp only [cxOf, Cx.nox, Cx.wish]
  rintro ⟨r, s⟩ ds M ⟨rfl, ht, h0⟩
  cases r with
  | cg c =>
    refine sx_ret (ex_andV ?_)
    walk_at "w"
    cases s with
    | inl s =>
      cases s with
      | rs =>
        refine cx_isi TRs.isR TRs.kRC ?_
        exact ⟨false, rfl, (fun h => by cases h), fun _ => ret_pure rfl (Sub.refl M)⟩
      | jc =>
        refine cx_isi TR.isJ TRs.kJC ?_
        exact ⟨false, rfl, (fun h => by cases h), fun _ => ret_pure rfl (Sub.refl M)⟩
      | sc u =>
        refine cx_isi TR.isS TRs.kSC ?_
        exact ⟨false, rfl, (fun h => by cases h), fun _ => ret_pure rfl (Sub.refl M)⟩
      | cg u =>
        refine cx_isi TR.isC TR.kC ?_
        refine ⟨true, rfl, fun _ => ?_, fun h => by cases h⟩
        refine ex_andV (ex_op (ex_fld (ex_var rfl ⟨CG, _, _, rfl, TR.clC, TR.nA, rfl, ex_fld (ex_var rfl ⟨CG, _, _, rfl, TR.clC, TR.nA, rfl, rx_eq_int ⟨_, rfl, fun h1 => ?_, fun h1 => ret_pure ?_ (Sub.refl M)⟩⟩)⟩)))
        · refine ex_andV (ex_op (ex_fld (ex_var rfl ⟨CG, _, _, rfl, TR.clC, TR.nB, rfl, ex_fld (ex_var rfl ⟨CG, _, _, rfl, TR.clC, TR.nB, rfl, rx_eq_int ⟨_, rfl, fun h2 => ?_, fun h2 => ret_pure ?_ (Sub.refl M)⟩⟩)⟩)))
          · refine ex_op (ex_fld (ex_var rfl ⟨CG, _, _, rfl, TR.clC, TR.nM, rfl, ex_fld (ex_var rfl ⟨CG, _, _, rfl, TR.clC, TR.nM, rfl, rx_eq_int (ret_pure ?_ (Sub.refl M))⟩)⟩))
            exact congrArg Dt.bl (decide_eq_decide.mpr ⟨fun h3 => by rw [show c = u from Prod.ext (dT h1) (Prod.ext (dT h2) h3)], fun h => by cases h; rfl⟩)
          · exact congrArg Dt.bl (decide_eq_false fun h => by cases h; exact dF h2 rfl).symm
        · exact congrArg Dt.bl (decide_eq_false fun h => by cases h; exact dF h1 rfl).symm
    | inr y =>
      refine cx_isiN (.str y) TRs.kTC ?_
      exact ⟨false, rfl, (fun h => by cases h), fun _ => ret_pure rfl (Sub.refl M)⟩
  | rs => cases ht
  | jc => cases ht
  | sc v => cases ht
end
end Wk
namespace Wk
open PySem L2 Evl
local macro_rules | `(tactic| walk_at "w1") => `(tactic| first
  | ((with_reducible refine' ex_var ?hv ?_); (case hv => rfl))
  | ((with_reducible refine' rx_ix_tup ?hv ?_); (case hv => rfl))
  | ((with_reducible refine' rx_ix_lst ?hv ?_); (case hv => rfl))
  | ((with_reducible refine' gx_tup ?hv ?_); (case hv => rfl))
  | ((with_reducible refine' rx_ix_cell ?hm ?hv ?_); (case hm => first | assumption | exact put_same); (case hv => rfl))
  | ((with_reducible refine' cx_len_cell ?hm ?_); (case hm => first | assumption | exact put_same))
  | ((with_reducible refine' rx_Ii ?hc ?_); (case hc => first | assumption | exact ⟨by decide, by decide +kernel⟩ | (show (0 : Int) < _; omega) | (show (0 : Int) < _; decide)))
  | ((with_reducible refine' rx_mul_int ?hc ?_); (case hc => first | assumption | exact cmul_l (by decide) (by decide) | exact cmul_r (by decide) (by decide)))
  | with_reducible refine ex_int ?_
  | with_reducible refine ex_str ?_
  | with_reducible refine ex_bl ?_
  | with_reducible refine ex_non ?_
  | with_reducible refine ex_raw ?_
  | with_reducible refine ex_op ?_
  | with_reducible refine ex_un ?_
  | with_reducible refine ex_cb ?_
  | with_reducible refine ex_tup ?_
  | with_reducible refine ex_sl ?_
  | with_reducible refine ox_none ?_
  | with_reducible refine ox_some ?_
  | with_reducible refine ax_nil ?_
  | with_reducible refine ax_cons ?_
  | with_reducible refine ex_if ?_
  | with_reducible refine ex_andV ?_
  | with_reducible refine ex_orV ?_
  | with_reducible refine ex_notV ?_
  | with_reducible refine ex_m0 ?_
  | with_reducible refine ex_m1 ?_
  | with_reducible refine tx_test ?_
  | with_reducible refine tx_B ?_
  | with_reducible refine tx_and ?_
  | with_reducible refine tx_or ?_
  | with_reducible refine tx_not ?_
  | with_reducible refine tx_yes ?_
  | with_reducible refine sx_seq ?_
  | with_reducible refine sx_set ?_
  | with_reducible refine sx_ret ?_
  | with_reducible refine sx_drop ?_
  | with_reducible refine sx_next ?_
  | with_reducible refine sx_if ?_
  | with_reducible refine sx_retN ?_
  | with_reducible refine sx_asg ?_
  | with_reducible refine sx_par ?_
  | with_reducible refine gx_name ?_
  | with_reducible refine gxs_cons ?_
  | with_reducible refine gxs_nil ?_
  | with_reducible refine rx_add_int ?_
  | with_reducible refine rx_I0i ?_
  | with_reducible refine rx_I0b ?_
  | with_reducible refine rx_eq_int ?_
  | with_reducible refine rx_ne_int ?_
  | with_reducible refine rx_eq_str ?_
  | with_reducible refine rx_ne_str ?_
  | with_reducible refine rx_eq_bl ?_
  | with_reducible refine rx_ne_bl ?_
  | with_reducible refine lx_tup ?_
  | with_reducible refine lx_lst ?_
  | with_reducible refine cx_len_tup ?_
  | with_reducible refine cx_len_lst ?_
  | with_reducible refine cx_len_frl ?_
  | with_reducible refine cx_max2 ?_
  | with_reducible refine ux_neg ?_
  | with_reducible refine cx_list_lst ?_
  | with_reducible refine cx_tuple_lst ?_
  | with_reducible refine cx_tuple_tup ?_
  | with_reducible refine mx_isdigit ?_
  | with_reducible refine mx_startswith ?_
  | with_reducible refine ix_any ?_
  | with_reducible refine And.intro (Nat.le_of_ble_eq_true rfl) ?_
  | refine Exists.intro _ (And.intro rfl ?_))
local macro_rules | `(tactic| walk_at "w") => `(tactic| repeat (walk_at "w1"))
section
variable {P : Program} {w : World} {K : PySem.W.Frag} {mg : Str → Option Value} {base : Heap} {C WE BP BT NC BJ S BW TM TF BS UN NP UF DP DF J UR SC JC CG RB RS FJ f g : Addr} {fd : FuncData}
theorem b_law : BindP "law" "law" s_law ["script"] := fun _ _ _ _ _ _ us hl => match us, hl with | [_], _ => rfl
theorem ok_law {f : Addr} {fd : FuncData} (F : Fun K "law" "law" s_law f fd) (T : Tx K mg C) (TRs : TxRs K mg RS JC SC CG) (TR : TxR K mg JC SC CG) (TR2 : TxR2 K JC SC CG) (c__law_source : Cal P w K mg base 1 "_law_source" (spSource K)) (c__law_draw : Cal P w K mg base 1 "_law_draw" (spDraw K)) (c__law_drawn : Cal P w K mg base 2 "_law_drawn" (spDrawn K)) (c__law_rearranged : Cal P w K mg base 3 "_law_rearranged" (spRearr K)) (c__law_made : Cal P w K mg base 5 "_law_made" (spMade K C)) (c__law_some_reasons : Cal P w K mg base 9 "_law_some_reasons" (spSomeR K RS JC SC CG)) (c__law_due : Cal P w K mg base 2 "_law_due" (spDueR K RS JC SC CG)) (c__law_text : Cal P w K mg base 1 "_law_text" (spTextR K RS JC SC CG)) (c__law_key : Cal P w K mg base 1 "_law_key" (spKeyR K RS JC SC CG)) (c_hold0 : MetR P w K mg base 1 RS "holds" (spHoldR K C RS)) (c_holdJ : MetR P w K mg base 3 JC "holds" (spHoldJ K C JC)) (c_holdS : MetR P w K mg base 4 SC "holds" (spHoldS K C SC)) (c_holdC : MetR P w K mg base 4 CG "holds" (spHoldC K C CG)) (c_told0 : MetR P w K mg base 1 RS "told" (spToldA K)) (c_toldJC : MetR P w K mg base 2 JC "told" (spToldJC K JC)) (c_toldSC : MetR P w K mg base 2 SC "told" (spToldSC K SC)) (c_toldCG : MetR P w K mg base 2 CG "told" (spToldCG K CG)) (c_eqRS : EqR P w K mg base 1 RS (spEqT K RS JC SC CG 0)) (c_eqJC : EqR P w K mg base 1 JC (spEqT K RS JC SC CG 1)) (c_eqSC : EqR P w K mg base 1 SC (spEqT K RS JC SC CG 2)) (c_eqCG : EqR P w K mg base 1 CG (spEqT K RS JC SC CG 3)) : FnG P w K mg base CX0 11 f (spLaw K) := by
  refine fun_okG F sc_law b_law (spD_len (n := 1) (fun x ds M h => by rw [h.1] <;> rfl)) (fun cdv A outer s H vs Q E hr hg h => ⟨_, (pss_cons (ps_for PassesOwn.never rfl (pi_range1 rfl T.n_range (pa_cons (pe_callB (call_max2 rfl) (by rfl) T.n_max (by decide +kernel) (pa_cons pe_int (pa_cons (pe_callB (call_min2 rfl) (by rfl) T.n_min (by decide +kernel) (pa_cons pe_int (pa_cons (pe_callB call_lenA (by rfl) T.n_len (by decide +kernel) (pa_cons (pv 0) pa_nil)) pa_nil))) pa_nil))) pa_nil)) (pg_name (i := 1) sc_law.nd rfl (Or.inl rfl)) (pss_cons (ps_set (i := 2) sc_law.nd rfl (Or.inl rfl) (pe_c c__law_source hr (by decide) rfl (pa_cons (pv 0) (pa_cons (pv 1) pa_nil)))) (pss_cons (ps_set (i := 3) sc_law.nd rfl (Or.inl rfl) (pe_c c__law_drawn hr (by decide) rfl (pa_cons (pv 2) (pa_cons (pe_op op_addA pe_int (pe_c c__law_draw hr (by decide) rfl (pa_cons (pv 2) (pa_cons pe_int pa_nil)))) pa_nil)))) (pss_cons (ps_set (i := 4) sc_law.nd rfl (Or.inl rfl) (pe_lst (pa_cons (pv 3) (pa_cons (pe_c c__law_drawn hr (by decide) rfl (pa_cons (pv 2) (pa_cons (pe_op op_addA pe_int (pe_c c__law_draw hr (by decide) rfl (pa_cons (pv 2) (pa_cons pe_int pa_nil)))) pa_nil))) (pa_cons (pe_slice sl_any (pv 3) po_none (po_some pe_int)) pa_nil))))) (pss_cons (ps_set (i := 4) sc_law.nd rfl (Or.inl rfl) (pe_op op_addA (pv 4) (pe_lst (pa_cons (pe_c c__law_rearranged hr (by decide) rfl (pa_cons (pv 2) (pa_cons (pv 3) (pa_cons pe_int pa_nil)))) (pa_cons (pe_c c__law_rearranged hr (by decide) rfl (pa_cons (pv 2) (pa_cons (pv 3) (pa_cons (pe_op op_powW pe_int pe_int) pa_nil)))) pa_nil))))) (pss_cons (ps_set (i := 4) sc_law.nd rfl (Or.inl rfl) (pe_op op_addA (pv 4) (pe_lst (pa_cons (pe_callTy call_tuple_of (by rfl) T.n_tuple (by decide +kernel) (pa_cons (pe_lc (own := [("x", 10), ("y", 11)]) rfl sc_law.nd (pi_any (pv 3)) (blkOk_by (own := [("x", 10), ("y", 11)]) (N := ["script", "place", "source", "start", "goals", "goal", "reasons", "reason", "due", "other", "x", "y"]) (sc := defScope s_law) (by decide +kernel)) (fun _ _ _ _ _ => (pg_tupK K 2 (by rfl) (pgs_cons (pg_name (i := 10) sc_law.nd rfl (Or.inl rfl)) (pgs_cons (pg_name (i := 11) sc_law.nd rfl (Or.inl rfl)) pgs_nil)) (by rfl))) (fun _ _ _ _ _ => pts_nil) (fun _ _ _ _ _ => (pe_tup (pa_cons (pe_op (op_addK K (by rfl)) (pv 10) pe_int) (pa_cons (pv 11) pa_nil))))) pa_nil)) (pa_cons (pe_callTy call_tuple_of (by rfl) T.n_tuple (by decide +kernel) (pa_cons (pe_lc (own := [("x", 10), ("y", 11)]) rfl sc_law.nd (pi_any (pv 3)) (blkOk_by (own := [("x", 10), ("y", 11)]) (N := ["script", "place", "source", "start", "goals", "goal", "reasons", "reason", "due", "other", "x", "y"]) (sc := defScope s_law) (by decide +kernel)) (fun _ _ _ _ _ => (pg_tupK K 2 (by rfl) (pgs_cons (pg_name (i := 10) sc_law.nd rfl (Or.inl rfl)) (pgs_cons (pg_name (i := 11) sc_law.nd rfl (Or.inl rfl)) pgs_nil)) (by rfl))) (fun _ _ _ _ _ => pts_nil) (fun _ _ _ _ _ => (pe_tup (pa_cons (pv 10) (pa_cons (pe_op (op_addK K (by rfl)) (pv 11) pe_int) pa_nil))))) pa_nil)) pa_nil))))) (pss_one (ps_for PassesOwn.never rfl (pi_any (pv 4)) (pg_name (i := 5) sc_law.nd rfl (Or.inl rfl)) (pss_cons (ps_set (i := 6) sc_law.nd rfl (Or.inl rfl) (pe_c c__law_some_reasons hr (by decide) rfl (pa_cons (pv 2) (pa_cons (pv 3) (pa_cons (pv 5) pa_nil))))) (pss_one (ps_for PassesOwn.never rfl (pi_any (pv 6)) (pg_name (i := 7) sc_law.nd rfl (Or.inl rfl)) (pss_cons (ps_set (i := 8) sc_law.nd rfl (Or.inl rfl) (pe_c c__law_due hr (by decide) rfl (pa_cons (pv 7) (pa_cons (pv 3) (pa_cons (pv 5) pa_nil))))) (pss_cons (ps_if (pt_cmpR (op_neA hr.units) (pe_callB (call_reprD hr hg) (by rfl) T.n_repr (by decide +kernel) (pa_cons (pe_either (pe_mR c_hold0 hr (by decide) (pv 7) (pa_cons (pe_c c__law_made hr (by decide) rfl (pa_cons (pv 3) pa_nil)) (pa_cons (pe_c c__law_made hr (by decide) rfl (pa_cons (pv 5) pa_nil)) pa_nil))) (pe_either (pe_mR c_holdJ hr (by decide) (pv 7) (pa_cons (pe_c c__law_made hr (by decide) rfl (pa_cons (pv 3) pa_nil)) (pa_cons (pe_c c__law_made hr (by decide) rfl (pa_cons (pv 5) pa_nil)) pa_nil))) (pe_either (pe_mR c_holdS hr (by decide) (pv 7) (pa_cons (pe_c c__law_made hr (by decide) rfl (pa_cons (pv 3) pa_nil)) (pa_cons (pe_c c__law_made hr (by decide) rfl (pa_cons (pv 5) pa_nil)) pa_nil))) (pe_mR c_holdC hr (by decide) (pv 7) (pa_cons (pe_c c__law_made hr (by decide) rfl (pa_cons (pv 3) pa_nil)) (pa_cons (pe_c c__law_made hr (by decide) rfl (pa_cons (pv 5) pa_nil)) pa_nil)))))) pa_nil)) (pe_callB (call_reprD hr hg) (by rfl) T.n_repr (by decide +kernel) (pa_cons (pv 8) pa_nil)) (nomark _)) (pss_one (ps_ret pe_bl)) pss_nil) (pss_cons (ps_if (PW.pt (pw_or (pt_cmpR (op_neA hr.units) (pe_either (pe_mR0 c_told0 hr (by decide) (pv 7)) (pe_either (pe_mR0 c_toldJC hr (by decide) (pv 7)) (pe_either (pe_mR0 c_toldSC hr (by decide) (pv 7)) (pe_mR0 c_toldCG hr (by decide) (pv 7))))) (pe_c c__law_text hr (by decide) rfl (pa_cons (pv 7) pa_nil)) (nomark _)) (pw_or1 (pt_not (pt_val (pe_callB (call_isiKK (K := K) rfl) (by rfl) T.n_isinstance (by decide +kernel) (pa_cons (pv 7) (pa_cons (pe_glob (v := .ref RS) rfl TRs.gR rfl) pa_nil)))))))) (pss_one (ps_ret pe_bl)) pss_nil) (pss_cons (ps_for PassesOwn.never rfl (pi_any (pv 6)) (pg_name (i := 9) sc_law.nd rfl (Or.inl rfl)) (pss_one (ps_if (pt_cmpR (op_neA hr.units) (pe_cmpR (show OpR _ _ (rEqRs K RS JC SC CG) from (op_eqD2 c_eqRS hr (by decide)).or ((op_eqD2 c_eqJC hr (by decide)).or ((op_eqD2 c_eqSC hr (by decide)).or ((op_eqD2 c_eqCG hr (by decide)).or ((op_eqS2 c_eqJC hr (by decide) TRs.sJ TRs.nJ).or ((op_eqS2 c_eqSC hr (by decide) TRs.sS TRs.nS).or (op_eqS2 c_eqCG hr (by decide) TRs.sC TRs.nC))))))) (pv 7) (pv 9) (nomark _)) (pe_cmpR (op_eqA hr.units) (pe_c c__law_key hr (by decide) rfl (pa_cons (pv 7) pa_nil)) (pe_c c__law_key hr (by decide) rfl (pa_cons (pv 9) pa_nil)) (nomark _)) (nomark _)) (pss_one (ps_ret pe_bl)) pss_nil))) (pss_one (ps_if (PW.pt (pw_or (pt_cmpR (show OpR _ _ (rEqSt K RS JC SC CG) from (op_eqX c_eqRS hr (by decide)).or ((op_eqX c_eqJC hr (by decide)).or ((op_eqX c_eqSC hr (by decide)).or ((op_eqX c_eqCG hr (by decide)))))) (pv 7) (pe_either (pe_mR0 c_told0 hr (by decide) (pv 7)) (pe_either (pe_mR0 c_toldJC hr (by decide) (pv 7)) (pe_either (pe_mR0 c_toldSC hr (by decide) (pv 7)) (pe_mR0 c_toldCG hr (by decide) (pv 7))))) (nomark _)) (pw_or1 (pt_cmpR (op_eqA hr.units) (pe_cmpR (show OpR _ _ (rNeRs K RS JC SC CG) from (op_neD2 c_eqRS hr (by decide)).or ((op_neD2 c_eqJC hr (by decide)).or ((op_neD2 c_eqSC hr (by decide)).or ((op_neD2 c_eqCG hr (by decide)))))) (pv 7) (pe_ix ix_seq (pv 6) pe_int (fun _ _ => rfl)) (nomark _)) (pe_cmpR (show OpR _ _ (rEqRs K RS JC SC CG) from (op_eqD2 c_eqRS hr (by decide)).or ((op_eqD2 c_eqJC hr (by decide)).or ((op_eqD2 c_eqSC hr (by decide)).or ((op_eqD2 c_eqCG hr (by decide)).or ((op_eqS2 c_eqJC hr (by decide) TRs.sJ TRs.nJ).or ((op_eqS2 c_eqSC hr (by decide) TRs.sS TRs.nS).or (op_eqS2 c_eqCG hr (by decide) TRs.sC TRs.nC))))))) (pv 7) (pe_ix ix_seq (pv 6) pe_int (fun _ _ => rfl)) (nomark _)) (nomark _))))) (pss_one (ps_ret pe_bl)) pss_nil))))))))))))))))) (pss_one (ps_ret pe_bl))), enter h ?_⟩)
  try dsimp only [cxOf, Cx.nox, Cx.wish]
  rintro ns ds M ⟨rfl, h63⟩
  refine sx_seqc (fun ρ' M' => True) (sx_for (ix_rng1 ?_)) ?_
  · walk_at "w"
    refine cx_min2 ?_
    walk_at "w"
    have hn : ∀ n : Int, (if (if n < 3 then n else 3) > 1 then (if n < 3 then n else 3) else 1) ≤ 3 ∧ 1 ≤ (if (if n < 3 then n else 3) > 1 then (if n < 3 then n else 3) else 1) := fun n => by
      split <;> split <;> omega
    generalize hm : (if (if ((ns.map Dt.int).length : Int) < 3 then ((ns.map Dt.int).length : Int) else 3) > 1 then (if ((ns.map Dt.int).length : Int) < 3 then ((ns.map Dt.int).length : Int) else 3) else 1) = m
    have hm3 := hn ((ns.map Dt.int).length : Int)
    rw [hm] at hm3
    refine ⟨by omega, by omega, fun i ρ' M' => ∃ o1 o2 o3 o4 o5 o6 o7 o8 o9 o10 o11, ρ' = [some (.frl (ns.map Dt.int)), o1, o2, o3, o4, o5, o6, o7, o8, o9, o10, o11], ⟨_, _, _, _, _, _, _, _, _, _, _, rfl⟩, fun _ _ _ _ _ => trivial, ?_, fun _ _ _ => trivial⟩
    rintro i d ρ' M1 hi ⟨o1, o2, o3, o4, o5, o6, o7, o8, o9, o10, o11, rfl⟩
    obtain ⟨hi2, rfl⟩ := rng_get hi
    have hi3 : i < 3 := by omega
    clear hn hm hi
    refine gx_name (sx_seq (sx_set (ex_call (ax_cons (ex_var rfl (ax_cons (ex_var rfl (ax_nil ?_))))))))
    refine ⟨(ns, 0 + (i : Int)), ⟨rfl, by dsimp only; omega, by dsimp only; omega⟩, ?_⟩
    rintro d M2 ⟨a, c, rfl, ha, rfl, hc⟩
    have hc0 : ∃ c', put M1 a c a = some c' ∧ IsSrc 0 c' := ⟨c, put_same, hc⟩
    clear ha
    generalize put M1 a c = M2 at hc0 ⊢
    have H1 : ∀ {M : Mm} {c' : Cell} {k : Int}, IsSrc k c' → ∃ c, put M a c' a = some c ∧ IsSrc k c := fun h => ⟨_, put_same, h⟩
    refine sx_seq (sx_set (ex_call (ax_cons (ex_var rfl (ax_cons (ex_op (ex_int (ex_draw (n := 0) (b := 6) (a := a) rfl hc0 (by decide) (by decide) (by decide) (by walk_at "w"; exact ⟨rfl, rfl⟩) fun r c1 r0 r1 hc1 => ?_))))))))
    obtain ⟨k, rfl⟩ := Int.eq_ofNat_of_zero_le r0
    refine rx_add_int (ax_nil ⟨(a, 3 + k, 1), ⟨?_, H1 hc1, by dsimp only; omega, by dsimp only; omega, (show (1 : Int) ≤ 2 ^ 30 by decide)⟩, ?_⟩)
    · show [Dt.raw (.ref a), .int (3 + (k : Int))] = [Dt.raw (.ref a), .int ((3 + k : Nat) : Int)]
      rw [Int.natCast_add] <;> rfl
    rintro d M3 ⟨ps, c2, rfl, hl, hb, rfl, hc2⟩
    dsimp only at hl hb hc2
    rw [put_put]
    have h3 : 3 ≤ ps.length := by omega
    have h8 : ps.length ≤ 8 := by omega
    have p9 : (10 : Int) ^ 9 = 1000000000 := by decide
    have hP : PolyB ps := polyB_of h3 h8 hb (by decide) (by decide)
    refine sx_seq (sx_set (ex_lst (ax_cons (ex_var rfl (ax_cons (ex_call (ax_cons (ex_var rfl (ax_cons (ex_op (ex_int (ex_draw (n := 61) (b := 6) (a := a) rfl (H1 hc2) (by decide) (by decide) (by decide) (by walk_at "w"; exact ⟨rfl, rfl⟩) fun r2 c4 r20 r21 hc4 => ?_))))))))))))
    rw [put_put]
    obtain ⟨k2, rfl⟩ := Int.eq_ofNat_of_zero_le r20
    refine rx_add_int (ax_nil ⟨(a, 3 + k2, 62), ⟨?_, H1 hc4, by dsimp only; omega, by dsimp only; omega, (show (62 : Int) ≤ 2 ^ 30 by decide)⟩, ?_⟩)
    · show [Dt.raw (.ref a), .int (3 + (k2 : Int))] = [Dt.raw (.ref a), .int ((3 + k2 : Nat) : Int)]
      rw [Int.natCast_add] <;> rfl
    rintro d M3 ⟨qs, c5, rfl, hl2, hb2, rfl, hc5⟩
    dsimp only at hl2 hb2 hc5
    rw [put_put]
    have hQ : PolyB qs := polyB_of (by omega) (by omega) hb2 (by decide) (by decide)
    refine ax_cons (ex_sl (ex_var rfl (ox_none (ox_some (ex_int ⟨_, rfl, lx_tup ?_⟩)))))
    have e1 : cutD (ps.map P2) none (some 3) = (ps.take 3).map P2 := by
      rw [show (some (3 : Int)) = some (((3 : Nat) : Int)) from rfl, cutD_to, List.map_take]
    rw [e1]
    refine ax_nil ⟨Nat.le_of_ble_eq_true rfl, ?_⟩
    refine sx_seq (sx_set (ex_op (ex_var rfl (ex_lst (ax_cons (ex_call (ax_cons (ex_var rfl (ax_cons (ex_var rfl (ax_cons (ex_int (ax_nil ⟨(a, ps, 2, 122), ⟨rfl, H1 hc5, h3, h8, hb, (show (0 : Int) ≤ 2 by decide), (show (2 : Int) ≤ 10 ^ 6 by decide), (show (122 : Int) ≤ 2 ^ 20 by decide)⟩, ?_⟩)))))))))))))
    rintro d M5 ⟨g1, c6, rfl, hg1, rfl, hc6⟩
    dsimp only at hc6
    rw [put_put]
    refine ax_cons (ex_call (ax_cons (ex_var rfl (ax_cons (ex_var rfl (ax_cons (ex_op (ex_int (ex_int ?_)))))))))
    walk_at "w"
    refine ⟨(a, ps, 10 ^ Int.toNat 6, 182), ⟨rfl, H1 hc6, h3, h8, hb, (show (0 : Int) ≤ 10 ^ Int.toNat 6 by decide), (show (10 : Int) ^ Int.toNat 6 ≤ 10 ^ 6 by decide), (show (182 : Int) ≤ 2 ^ 20 by decide)⟩, ?_⟩
    rintro d M5 ⟨g2, c7, rfl, hg2, rfl, hc7⟩
    dsimp only at hc7
    rw [put_put]
    refine ax_nil ⟨Nat.le_of_ble_eq_true rfl, rx_add_lst ?_ ?_⟩
    · exact Nat.le_of_ble_eq_true rfl
    refine sx_seq (sx_set (ex_op (ex_var rfl (ex_lst (ax_cons (ex_cb (ax_cons (ex_lcm (by exact gw_tup (gw_cons (gw_name (by decide)) (gw_cons (gw_name (by decide)) gw_nil gm_name) gm_name)) (ix_any (ex_var rfl ?_))))))))))
    refine ⟨_, _, .inl ⟨.inr (.inr rfl), rfl⟩, ?_, trivial, (mvP 1 0 (ps)).map P2, ?_, ?_, ax_nil (cx_tuple_lst ?_)⟩
    · rw [List.length_map]
      exact Nat.lt_of_le_of_lt h8 (by decide)
    · rw [List.length_map, List.length_map, mvP_len]
    · intro i d z hi hz
      rw [List.getElem?_map] at hi
      obtain ⟨v, hv, rfl⟩ := Option.map_eq_some_iff.mp hi
      rw [List.getElem?_map, mvP_get hv] at hz
      cases hz
      refine gx_tup rfl (gxs_cons (gx_name (gxs_cons (gx_name (gxs_nil ?_)))))
      refine ex_tup (ax_cons (ex_op (ex_var rfl (ex_int (rx_add_int (ax_cons (ex_var rfl (ax_nil ⟨Nat.le_of_ble_eq_true rfl, ?_, rfl⟩))))))))
      show Dt.tup [.int (v.1 + 1), .int v.2] = Dt.tup [.int (v.1 + 1), .int (v.2 + 0)]
      rw [Int.add_zero]
    refine ax_cons (ex_cb (ax_cons (ex_lcm (by exact gw_tup (gw_cons (gw_name (by decide)) (gw_cons (gw_name (by decide)) gw_nil gm_name) gm_name)) (ix_any (ex_var rfl ?_)))))
    refine ⟨_, _, .inl ⟨.inr (.inr rfl), rfl⟩, ?_, trivial, (mvP 0 2 (ps)).map P2, ?_, ?_, ax_nil (cx_tuple_lst ?_)⟩
    · rw [List.length_map]
      exact Nat.lt_of_le_of_lt h8 (by decide)
    · rw [List.length_map, List.length_map, mvP_len]
    · intro i d z hi hz
      rw [List.getElem?_map] at hi
      obtain ⟨v, hv, rfl⟩ := Option.map_eq_some_iff.mp hi
      rw [List.getElem?_map, mvP_get hv] at hz
      cases hz
      refine gx_tup rfl (gxs_cons (gx_name (gxs_cons (gx_name (gxs_nil ?_)))))
      refine ex_tup (ax_cons (ex_var rfl (ax_cons (ex_op (ex_var rfl (ex_int (rx_add_int (ax_nil ⟨Nat.le_of_ble_eq_true rfl, ?_, rfl⟩))))))))
      show Dt.tup [.int v.1, .int (v.2 + 2)] = Dt.tup [.int (v.1 + 0), .int (v.2 + 2)]
      rw [Int.add_zero]
    refine ax_nil ⟨Nat.le_of_ble_eq_true rfl, rx_add_lst ?_ ?_⟩
    · exact Nat.le_of_ble_eq_true rfl
    have mv : ∀ u v : Int, 0 ≤ u → u ≤ 2 → 0 ≤ v → v ≤ 2 → PolyB (mvP u v ps) := fun u v u0 u1 v0 v1 => by
      refine polyB_of (B := 1000000002) (by rw [mvP_len]; exact h3) (by rw [mvP_len]; exact h8) (fun q hq => ?_) (by decide) (by decide)
      obtain ⟨p, hp, rfl⟩ := List.mem_map.mp hq
      have := hb p hp
      rw [p9] at this
      dsimp only
      omega
    have ga : ∀ g ∈ [ps, qs, ps.take 3, g1, g2, mvP 1 0 ps, mvP 0 2 ps], PolyB g := fun g hm => by
      rcases List.mem_cons.mp hm with rfl | hm
      · exact hP
      rcases List.mem_cons.mp hm with rfl | hm
      · exact hQ
      rcases List.mem_cons.mp hm with rfl | hm
      · have l3 : (ps.take 3).length = 3 := by
          rw [List.length_take]
          omega
        exact polyB_of (by omega) (by omega) (hb.sub fun q => List.mem_of_mem_take) (by decide) (by decide)
      rcases List.mem_cons.mp hm with rfl | hm
      · exact hg1
      rcases List.mem_cons.mp hm with rfl | hm
      · exact hg2
      rcases List.mem_cons.mp hm with rfl | hm
      · exact mv 1 0 (by decide) (by decide) (by decide) (by decide)
      · rw [List.mem_singleton.mp hm]
        exact mv 0 2 (by decide) (by decide) (by decide) (by decide)
    obtain ⟨gs, eg, lg, hgs⟩ : ∃ gs, [ps, qs, ps.take 3, g1, g2, mvP 1 0 ps, mvP 0 2 ps] = gs ∧ gs.length = 7 ∧ ∀ g ∈ gs, PolyB g := ⟨_, rfl, rfl, ga⟩
    show SX K _ [some (.frl (ns.map Dt.int)), some (.int (0 + (i : Int))), some (.raw (.ref a)), some (Pts ps), some (.lst ([ps, qs, ps.take 3, g1, g2, mvP 1 0 ps, mvP 0 2 ps].map (fun g => Pts g))), o5, o6, o7, o8, o9, o10, o11] (put M2 a c7) _
    rw [eg]
    clear eg ga mv hg1 hg2 hQ hl2 hb2
    have sm : ∀ {rs : List Pt}, PolyB rs → Small rs := fun h => Small.of h.bp (by decide)
    refine sx_for (ix_any (ex_var rfl ⟨_, _, .inl ⟨.inl rfl, rfl⟩, fun k ρ' M' => ∃ (x5 x6 x7 x8 x9 : Option Dt) (c' : Cell), ρ' = [some (.frl (ns.map Dt.int)), some (.int (0 + (i : Int))), some (.raw (.ref a)), some (Pts ps), some (.lst (gs.map (fun g => Pts g))), x5, x6, x7, x8, x9, o10, o11] ∧ M' = put M2 a c' ∧ IsSrc (242 + 30 * k) c', ⟨_, _, _, _, _, c7, rfl, rfl, hc7.mono (by omega)⟩, fun _ _ _ _ _ => trivial, ?_, ?_⟩))
    · rintro k d ρ' M' hk ⟨x5, x6, x7, x8, x9, c', rfl, rfl, hc'⟩
      rw [List.getElem?_map] at hk
      obtain ⟨g, hgk, rfl⟩ := Option.map_eq_some_iff.mp hk
      have pg := hgs g (List.mem_of_getElem? hgk)
      have hk7 : k < gs.length := (List.getElem?_eq_some_iff.mp hgk).1
      refine gx_name (sx_seq (sx_set (ex_call (ax_cons (ex_var rfl (ax_cons (ex_var rfl (ax_cons (ex_var rfl (ax_nil ⟨(a, ps, g, 242 + 30 * (k : Int)), ⟨rfl, H1 hc', hP, pg, ?_⟩, ?_⟩))))))))))
      · show 242 + 30 * (k : Int) ≤ 2 ^ 30
        rw [show (2 : Int) ^ 30 = 1073741824 by decide]
        omega
      rintro d M5 ⟨rs, c8, rfl, hrs, lrs, rfl, hc8⟩
      dsimp only at hc8
      rw [put_put]
      have hall : ∀ r ∈ Rsn.rs :: rs, r.ok := fun r hm => by
        rcases List.mem_cons.mp hm with rfl | hm
        · trivial
        · exact hrs r hm
      refine sx_for (ix_any (ex_var rfl ⟨_, _, .inl ⟨.inl rfl, rfl⟩, fun k2 ρ' M' => ∃ (x7 x8 x9 : Option Dt), ρ' = [some (.frl (ns.map Dt.int)), some (.int (0 + (i : Int))), some (.raw (.ref a)), some (Pts ps), some (.lst (gs.map (fun g => Pts g))), some (Pts g), some (.lst ((Rsn.rs :: rs).map (Rsn.dt RS JC SC CG))), x7, x8, x9, o10, o11] ∧ M' = put M2 a c8, ⟨_, _, _, rfl, rfl⟩, fun _ _ _ _ _ => trivial, ?_, ?_⟩))
      · rintro k2 d ρ' M' hk2 ⟨x7, x8, x9, rfl, rfl⟩
        rw [List.getElem?_map] at hk2
        obtain ⟨r, hrk, rfl⟩ := Option.map_eq_some_iff.mp hk2
        have hr := hall r (List.mem_of_getElem? hrk)
        refine gx_name (sx_seq (sx_set (ex_callP (ax_cons (ex_var rfl (ax_cons (ex_var rfl (ax_cons (ex_var rfl (ax_nil ⟨(r, ps, g), rfl, ⟨hr, hP, pg⟩, ?_⟩))))))))))
        refine sx_seq (sx_if (tx_test (ex_op (ex_cb (ax_cons (ex_hold4 hr hP pg (ex_var rfl ⟨rfl, ax_cons (ex_callP (ax_cons (ex_var rfl (ax_nil ⟨(ps, true), rfl, ⟨hP.l3, hP.l8, sm hP⟩, ax_cons (ex_callP (ax_cons (ex_var rfl (ax_nil ⟨(g, true), rfl, ⟨pg.l3, pg.l8, sm pg⟩, ax_nil ⟨rfl, ax_nil (cx_repr (sh_bl _) (ex_cb (ax_cons (ex_var rfl (ax_nil (cx_repr (sh_bl _) (rx_ne_str ⟨_, rfl, fun h => ?_, fun _ => sx_next ?_⟩)))))))⟩⟩))))⟩))))⟩)))))))
        · simp at h
        refine sx_seq (sx_if (tx_or (tx_test (ex_op (ex_told4 hr (ex_var rfl ⟨rfl, ex_callP (ax_cons (ex_var rfl (ax_nil ⟨r, rfl, hr, rx_ne_str ⟨_, rfl, fun h => ?_, fun _ => ?_⟩⟩)))⟩))))))
        · simp at h
        refine tx_not (tx_B (ex_cb (ax_cons (ex_var rfl (ax_cons (ex_raw (ax_nil (cx_isRs TRs TR ?_))))))))
        refine ⟨true, rfl, (fun h => nomatch h), fun _ => sx_next ?_⟩
        refine sx_seqc (fun ρ' M' => ∃ x9, ρ' = [some (.frl (ns.map Dt.int)), some (.int (0 + (i : Int))), some (.raw (.ref a)), some (Pts ps), some (.lst (gs.map (fun g => Pts g))), some (Pts g), some (.lst ((Rsn.rs :: rs).map (Rsn.dt RS JC SC CG))), some (r.dt RS JC SC CG), some (.bl (r.holds ps g)), x9, o10, o11] ∧ M' = put M2 a c8) (sx_for (ix_any (ex_var rfl ⟨_, _, .inl ⟨.inl rfl, rfl⟩, fun k3 ρ' M' => ∃ x9, ρ' = [some (.frl (ns.map Dt.int)), some (.int (0 + (i : Int))), some (.raw (.ref a)), some (Pts ps), some (.lst (gs.map (fun g => Pts g))), some (Pts g), some (.lst ((Rsn.rs :: rs).map (Rsn.dt RS JC SC CG))), some (r.dt RS JC SC CG), some (.bl (r.holds ps g)), x9, o10, o11] ∧ M' = put M2 a c8, ⟨_, rfl, rfl⟩, fun _ _ _ _ _ => trivial, ?_, ?_⟩))) ?_
        · rintro k3 d ρ' M' hk3 ⟨x9, rfl, rfl⟩
          rw [List.getElem?_map] at hk3
          obtain ⟨s, hsk, rfl⟩ := Option.map_eq_some_iff.mp hk3
          refine gx_name (sx_if (tx_test (ex_op (ex_op (ex_var rfl (ex_var rfl (rx_eqRs TRs (ex_op (ex_callP (ax_cons (ex_var rfl (ax_nil ⟨r, rfl, trivial, ex_callP (ax_cons (ex_var rfl (ax_nil ⟨s, rfl, trivial, rx_eqD r.key_plain s.key_plain (rx_ne_bl ⟨_, rfl, fun h => ?_, fun _ => sx_next ⟨_, rfl, rfl⟩⟩)⟩)))⟩))))))))))))
          rw [key_eq] at h
          simp at h
        · rintro ρ' M' ⟨x9, rfl, rfl⟩
          exact ⟨_, rfl, rfl⟩
        rintro ρ' M' ⟨x9, rfl, rfl⟩
        have a0 : atI ((Rsn.rs :: rs).map (Rsn.dt RS JC SC CG)) 0 = some (Rsn.rs.dt RS JC SC CG) := atI_at (j := 0) rfl
        refine sx_if (tx_or (tx_test (ex_op (ex_var rfl (ex_told4 hr (ex_var rfl ⟨rfl, rx_eqSt TRs ⟨false, rfl, (fun h => nomatch h), fun _ => ?_⟩⟩))))))
        refine tx_test (ex_op (ex_op (ex_var rfl (ex_op (ex_var rfl (ex_int (rx_ix_lst a0 (rx_neRs TRs (ex_op (ex_var rfl (ex_op (ex_var rfl (ex_int (rx_ix_lst a0 (rx_eqRs TRs (rx_eq_bl ⟨_, rfl, fun h => ?_, fun _ => sx_next ⟨_, _, _, rfl, rfl⟩⟩))))))))))))))))
        exfalso
        cases hd : decide (r = Rsn.rs) <;> rw [hd] at h <;> cases h
      · rintro ρ' M' ⟨x7, x8, x9, rfl, rfl⟩
        exact ⟨_, _, _, _, _, c8, rfl, rfl, hc8.mono (by omega)⟩
    · rintro ρ' M' ⟨x5, x6, x7, x8, x9, c', rfl, rfl, hc'⟩
      exact ⟨_, _, _, _, _, _, _, _, _, _, _, rfl⟩
  · rintro ρ' M' _
    exact sx_ret (ex_bl ⟨M', Sub.refl _, rfl⟩)
end
end Wk
namespace Wk
open PySem L2 Evl
theorem _root_.L2.FnOk.raw0 {P : Program} {w : World} {K : PySem.W.Frag} {mg : Str → Option Value} {base : Heap} {CX : CXT} {k : Nat} {f : Addr} {sp : Sp} {fd : FuncData} {ps : List Str} (F : FnOk P w K mg base CX k f fd ps sp) (hb : Binds K fd ps []) : FnR P w K mg base CX k f sp :=
  (F.raw hb .nil).imp fun vs H Q E h => by
    show sp (vs ++ []) H Q E
    rw [List.append_nil]
    exact h
theorem all_mk {l : PySem.W.OpenLaw} {w : World} {K : PySem.W.Frag} {h : Heap} {mg : Str → Option Value} {fa : Addr} {C : Addr} {mt : Tok} {lt : Tok} {RS : Addr} {SC : Addr} {CG : Addr} {JC : Addr} {cd_RS : ClassData} {cd_JC : ClassData} {cd_SC : ClassData} {cd_CG : ClassData} {f__law_source : Addr} {oc__law_source : Value} {kV__law_source : Value} {dc__law_source : Value} {pm__law_source : Value} {cd__law_source : Value} {ct__law_source : Value} {od__law_source : Option Addr} {an__law_source : Option Addr} {sl__law_source : Array (Option Value)} {f__law_draw : Addr} {oc__law_draw : Value} {kV__law_draw : Value} {dc__law_draw : Value} {pm__law_draw : Value} {cd__law_draw : Value} {ct__law_draw : Value} {od__law_draw : Option Addr} {an__law_draw : Option Addr} {sl__law_draw : Array (Option Value)} {f__law_closed : Addr} {oc__law_closed : Value} {kV__law_closed : Value} {dc__law_closed : Value} {pm__law_closed : Value} {cd__law_closed : Value} {ct__law_closed : Value} {od__law_closed : Option Addr} {an__law_closed : Option Addr} {sl__law_closed : Array (Option Value)} {f__law_drawn : Addr} {oc__law_drawn : Value} {kV__law_drawn : Value} {dc__law_drawn : Value} {pm__law_drawn : Value} {cd__law_drawn : Value} {ct__law_drawn : Value} {od__law_drawn : Option Addr} {an__law_drawn : Option Addr} {sl__law_drawn : Array (Option Value)} {f__law_sticks : Addr} {oc__law_sticks : Value} {kV__law_sticks : Value} {dc__law_sticks : Value} {pm__law_sticks : Value} {cd__law_sticks : Value} {ct__law_sticks : Value} {od__law_sticks : Option Addr} {an__law_sticks : Option Addr} {sl__law_sticks : Array (Option Value)} {f__law_shuffled : Addr} {oc__law_shuffled : Value} {kV__law_shuffled : Value} {dc__law_shuffled : Value} {pm__law_shuffled : Value} {cd__law_shuffled : Value} {ct__law_shuffled : Value} {od__law_shuffled : Option Addr} {an__law_shuffled : Option Addr} {sl__law_shuffled : Array (Option Value)} {f__law_rearranged : Addr} {oc__law_rearranged : Value} {kV__law_rearranged : Value} {dc__law_rearranged : Value} {pm__law_rearranged : Value} {cd__law_rearranged : Value} {ct__law_rearranged : Value} {od__law_rearranged : Option Addr} {an__law_rearranged : Option Addr} {sl__law_rearranged : Array (Option Value)} {f_is_count : Addr} {oc_is_count : Value} {kV_is_count : Value} {dc_is_count : Value} {pm_is_count : Value} {cd_is_count : Value} {ct_is_count : Value} {od_is_count : Option Addr} {an_is_count : Option Addr} {sl_is_count : Array (Option Value)} {f_is_number : Addr} {oc_is_number : Value} {kV_is_number : Value} {dc_is_number : Value} {pm_is_number : Value} {cd_is_number : Value} {ct_is_number : Value} {od_is_number : Option Addr} {an_is_number : Option Addr} {sl_is_number : Array (Option Value)} {f_read_points : Addr} {oc_read_points : Value} {kV_read_points : Value} {dc_read_points : Value} {pm_read_points : Value} {cd_read_points : Value} {ct_read_points : Value} {od_read_points : Option Addr} {an_read_points : Option Addr} {sl_read_points : Array (Option Value)} {f_check_pairs : Addr} {oc_check_pairs : Value} {kV_check_pairs : Value} {dc_check_pairs : Value} {pm_check_pairs : Value} {cd_check_pairs : Value} {ct_check_pairs : Value} {od_check_pairs : Option Addr} {an_check_pairs : Option Addr} {sl_check_pairs : Array (Option Value)} {f_Pinit : Addr} {oc_Pinit : Value} {kV_Pinit : Value} {dc_Pinit : Value} {pm_Pinit : Value} {cd_Pinit : Value} {ct_Pinit : Value} {od_Pinit : Option Addr} {an_Pinit : Option Addr} {sl_Pinit : Array (Option Value)} {f_Pparse : Addr} {p_Pparse : Addr} {r_Pparse : List Value} {oc_Pparse : Value} {kV_Pparse : Value} {dc_Pparse : Value} {pm_Pparse : Value} {cd_Pparse : Value} {ct_Pparse : Value} {od_Pparse : Option Addr} {an_Pparse : Option Addr} {sl_Pparse : Array (Option Value)} {f__law_made : Addr} {oc__law_made : Value} {kV__law_made : Value} {dc__law_made : Value} {pm__law_made : Value} {cd__law_made : Value} {ct__law_made : Value} {od__law_made : Option Addr} {an__law_made : Option Addr} {sl__law_made : Array (Option Value)} {f_Plen : Addr} {oc_Plen : Value} {kV_Plen : Value} {dc_Plen : Value} {pm_Plen : Value} {cd_Plen : Value} {ct_Plen : Value} {od_Plen : Option Addr} {an_Plen : Option Addr} {sl_Plen : Array (Option Value)} {f_minus : Addr} {oc_minus : Value} {kV_minus : Value} {dc_minus : Value} {pm_minus : Value} {cd_minus : Value} {ct_minus : Value} {od_minus : Option Addr} {an_minus : Option Addr} {sl_minus : Array (Option Value)} {f_sides_of : Addr} {oc_sides_of : Value} {kV_sides_of : Value} {dc_sides_of : Value} {pm_sides_of : Value} {cd_sides_of : Value} {ct_sides_of : Value} {od_sides_of : Option Addr} {an_sides_of : Option Addr} {sl_sides_of : Array (Option Value)} {f_Psticks : Addr} {p_Psticks : Addr} {r_Psticks : List Value} {oc_Psticks : Value} {kV_Psticks : Value} {dc_Psticks : Value} {pm_Psticks : Value} {cd_Psticks : Value} {ct_Psticks : Value} {od_Psticks : Option Addr} {an_Psticks : Option Addr} {sl_Psticks : Array (Option Value)} {f_SCinit : Addr} {oc_SCinit : Value} {kV_SCinit : Value} {dc_SCinit : Value} {pm_SCinit : Value} {cd_SCinit : Value} {ct_SCinit : Value} {od_SCinit : Option Addr} {an_SCinit : Option Addr} {sl_SCinit : Array (Option Value)} {f_SCholds : Addr} {oc_SCholds : Value} {kV_SCholds : Value} {dc_SCholds : Value} {pm_SCholds : Value} {cd_SCholds : Value} {ct_SCholds : Value} {od_SCholds : Option Addr} {an_SCholds : Option Addr} {sl_SCholds : Array (Option Value)} {f_differences : Addr} {oc_differences : Value} {kV_differences : Value} {dc_differences : Value} {pm_differences : Value} {cd_differences : Value} {ct_differences : Value} {od_differences : Option Addr} {an_differences : Option Addr} {sl_differences : Array (Option Value)} {f_CGvanishes : Addr} {oc_CGvanishes : Value} {kV_CGvanishes : Value} {dc_CGvanishes : Value} {pm_CGvanishes : Value} {cd_CGvanishes : Value} {ct_CGvanishes : Value} {od_CGvanishes : Option Addr} {an_CGvanishes : Option Addr} {sl_CGvanishes : Array (Option Value)} {f_CGholds : Addr} {oc_CGholds : Value} {kV_CGholds : Value} {dc_CGholds : Value} {pm_CGholds : Value} {cd_CGholds : Value} {ct_CGholds : Value} {od_CGholds : Option Addr} {an_CGholds : Option Addr} {sl_CGholds : Array (Option Value)} {f_mixed : Addr} {oc_mixed : Value} {kV_mixed : Value} {dc_mixed : Value} {pm_mixed : Value} {cd_mixed : Value} {ct_mixed : Value} {od_mixed : Option Addr} {an_mixed : Option Addr} {sl_mixed : Array (Option Value)} {f_cleared : Addr} {oc_cleared : Value} {kV_cleared : Value} {dc_cleared : Value} {pm_cleared : Value} {cd_cleared : Value} {ct_cleared : Value} {od_cleared : Option Addr} {an_cleared : Option Addr} {sl_cleared : Array (Option Value)} {f_basis : Addr} {oc_basis : Value} {kV_basis : Value} {dc_basis : Value} {pm_basis : Value} {cd_basis : Value} {ct_basis : Value} {od_basis : Option Addr} {an_basis : Option Addr} {sl_basis : Array (Option Value)} {f_CGinit : Addr} {oc_CGinit : Value} {kV_CGinit : Value} {dc_CGinit : Value} {pm_CGinit : Value} {cd_CGinit : Value} {ct_CGinit : Value} {od_CGinit : Option Addr} {an_CGinit : Option Addr} {sl_CGinit : Array (Option Value)} {f_congruences : Addr} {oc_congruences : Value} {kV_congruences : Value} {dc_congruences : Value} {pm_congruences : Value} {cd_congruences : Value} {ct_congruences : Value} {od_congruences : Option Addr} {an_congruences : Option Addr} {sl_congruences : Array (Option Value)} {f_reason_against : Addr} {oc_reason_against : Value} {kV_reason_against : Value} {dc_reason_against : Value} {pm_reason_against : Value} {cd_reason_against : Value} {ct_reason_against : Value} {od_reason_against : Option Addr} {an_reason_against : Option Addr} {sl_reason_against : Array (Option Value)} {f__law_some_reasons : Addr} {oc__law_some_reasons : Value} {kV__law_some_reasons : Value} {dc__law_some_reasons : Value} {pm__law_some_reasons : Value} {cd__law_some_reasons : Value} {ct__law_some_reasons : Value} {od__law_some_reasons : Option Addr} {an__law_some_reasons : Option Addr} {sl__law_some_reasons : Array (Option Value)} {f__law_due : Addr} {oc__law_due : Value} {kV__law_due : Value} {dc__law_due : Value} {pm__law_due : Value} {cd__law_due : Value} {ct__law_due : Value} {od__law_due : Option Addr} {an__law_due : Option Addr} {sl__law_due : Array (Option Value)} {f__law_text : Addr} {oc__law_text : Value} {kV__law_text : Value} {dc__law_text : Value} {pm__law_text : Value} {cd__law_text : Value} {ct__law_text : Value} {od__law_text : Option Addr} {an__law_text : Option Addr} {sl__law_text : Array (Option Value)} {f__law_key : Addr} {oc__law_key : Value} {kV__law_key : Value} {dc__law_key : Value} {pm__law_key : Value} {cd__law_key : Value} {ct__law_key : Value} {od__law_key : Option Addr} {an__law_key : Option Addr} {sl__law_key : Array (Option Value)} {f_RSholds : Addr} {oc_RSholds : Value} {kV_RSholds : Value} {dc_RSholds : Value} {pm_RSholds : Value} {cd_RSholds : Value} {ct_RSholds : Value} {od_RSholds : Option Addr} {an_RSholds : Option Addr} {sl_RSholds : Array (Option Value)} {f_JCholds : Addr} {oc_JCholds : Value} {kV_JCholds : Value} {dc_JCholds : Value} {pm_JCholds : Value} {cd_JCholds : Value} {ct_JCholds : Value} {od_JCholds : Option Addr} {an_JCholds : Option Addr} {sl_JCholds : Array (Option Value)} {f_RStold : Addr} {oc_RStold : Value} {kV_RStold : Value} {dc_RStold : Value} {pm_RStold : Value} {cd_RStold : Value} {ct_RStold : Value} {od_RStold : Option Addr} {an_RStold : Option Addr} {sl_RStold : Array (Option Value)} {f_tJC : Addr} {cda_tJC : Addr} {cc_tJC : Addr} {oc_tJC : Value} {kV_tJC : Value} {dc_tJC : Value} {pm_tJC : Value} {ct_tJC : Value} {ccl_tJC : Value} {cl_tJC : Value} {od_tJC : Option Addr} {an_tJC : Option Addr} {cdd_tJC : Option Addr} {cld_tJC : Option Addr} {sl_tJC : Array (Option Value)} {ccs_tJC : Array (Option Value)} {csl_tJC : Array (Option Value)} {vs_tJC : Array Value} {fi_tJC : Str} {tf_tJC : Tok} {f_tSC : Addr} {cda_tSC : Addr} {cc_tSC : Addr} {oc_tSC : Value} {kV_tSC : Value} {dc_tSC : Value} {pm_tSC : Value} {ct_tSC : Value} {ccl_tSC : Value} {cl_tSC : Value} {od_tSC : Option Addr} {an_tSC : Option Addr} {cdd_tSC : Option Addr} {cld_tSC : Option Addr} {sl_tSC : Array (Option Value)} {ccs_tSC : Array (Option Value)} {csl_tSC : Array (Option Value)} {vs_tSC : Array Value} {fi_tSC : Str} {tf_tSC : Tok} {f_tCG : Addr} {cda_tCG : Addr} {cc_tCG : Addr} {oc_tCG : Value} {kV_tCG : Value} {dc_tCG : Value} {pm_tCG : Value} {ct_tCG : Value} {ccl_tCG : Value} {cl_tCG : Value} {od_tCG : Option Addr} {an_tCG : Option Addr} {cdd_tCG : Option Addr} {cld_tCG : Option Addr} {sl_tCG : Array (Option Value)} {ccs_tCG : Array (Option Value)} {csl_tCG : Array (Option Value)} {vs_tCG : Array Value} {fi_tCG : Str} {tf_tCG : Tok} {f_RSeq : Addr} {oc_RSeq : Value} {kV_RSeq : Value} {dc_RSeq : Value} {pm_RSeq : Value} {cd_RSeq : Value} {ct_RSeq : Value} {od_RSeq : Option Addr} {an_RSeq : Option Addr} {sl_RSeq : Array (Option Value)} {f_JCeq : Addr} {oc_JCeq : Value} {kV_JCeq : Value} {dc_JCeq : Value} {pm_JCeq : Value} {cd_JCeq : Value} {ct_JCeq : Value} {od_JCeq : Option Addr} {an_JCeq : Option Addr} {sl_JCeq : Array (Option Value)} {f_SCeq : Addr} {oc_SCeq : Value} {kV_SCeq : Value} {dc_SCeq : Value} {pm_SCeq : Value} {cd_SCeq : Value} {ct_SCeq : Value} {od_SCeq : Option Addr} {an_SCeq : Option Addr} {sl_SCeq : Array (Option Value)} {f_CGeq : Addr} {oc_CGeq : Value} {kV_CGeq : Value} {dc_CGeq : Value} {pm_CGeq : Value} {cd_CGeq : Value} {ct_CGeq : Value} {od_CGeq : Option Addr} {an_CGeq : Option Addr} {sl_CGeq : Array (Option Value)} {f_law : Addr} {oc_law : Value} {kV_law : Value} {dc_law : Value} {pm_law : Value} {cd_law : Value} {ct_law : Value} {od_law : Option Addr} {an_law : Option Addr} {sl_law : Array (Option Value)} 
    

    (X : K.In h) (G : h.Ns mainGlobals mg) (hfa : mg "law" = some (.ref fa))
    (a_P : PySem.W.nsIn K mainGlobals "Polygon" = some (some (.ref C)))
    (pg_P : PySem.W.plainGet K C Str.empty = true)
    (hd_P : PySem.W.hasDictIn K C = true)
    (po_P : PySem.W.plainOver K C = true)
    (sa_P : PySem.W.findIn K (.ref C) "__setattr__" = some (some (.builtin "object.__setattr__")))
    (mk_P : PySem.W.makesIn K C = true)
    (kc_P : PySem.W.keepIn K (.ref C) = true)
    (nP_P : PySem.W.findIn K (.ref C) "points" = some none)
    (ne_P : PySem.W.findIn K (.ref C) "__ne__" = some (some (.builtin "object.__ne__")))
    (ob_P : PySem.W.mroIn K C (.type "object") = some true)
    (ha_P : PySem.W.findIn K (.ref C) "__class__" = some (some (.builtin "object.__class__")))
    (rd_P : PySem.W.readsIn K C (.type "type") = true)
    (ga_P : PySem.W.specialIn K (.ref C) "__getattribute__" = some (some (.builtin "type.__getattribute__")))
    (hn : PySem.W.specialIn K (.builtin "object.__class__") "__get__" = some (some (.builtin "getset_descriptor.__get__")))
    (htk : PySem.W.takesIn K (.builtin "object.__class__") = some true)
    (most : PySem.W.findCls K (.ref C) (.type "type") "MOST_JOINTS" = some (.val (.int 8 mt)))
    (least : PySem.W.nsIn K mainGlobals "LEAST_JOINTS" = some (some (.int 3 lt)))
    (z_len : PySem.W.nsIn K mainGlobals "len" = some none)
    (z_max : PySem.W.nsIn K mainGlobals "max" = some none)
    (z_min : PySem.W.nsIn K mainGlobals "min" = some none)
    (z_range : PySem.W.nsIn K mainGlobals "range" = some none)
    (z_enumerate : PySem.W.nsIn K mainGlobals "enumerate" = some none)
    (z_zip : PySem.W.nsIn K mainGlobals "zip" = some none)
    (z_list : PySem.W.nsIn K mainGlobals "list" = some none)
    (z_tuple : PySem.W.nsIn K mainGlobals "tuple" = some none)
    (z_int : PySem.W.nsIn K mainGlobals "int" = some none)
    (z_str : PySem.W.nsIn K mainGlobals "str" = some none)
    (z_sum : PySem.W.nsIn K mainGlobals "sum" = some none)
    (z_isinstance : PySem.W.nsIn K mainGlobals "isinstance" = some none)
    (z_any : PySem.W.nsIn K mainGlobals "any" = some none)
    (z_repr : PySem.W.nsIn K mainGlobals "repr" = some none)
    (z_set : PySem.W.nsIn K mainGlobals "set" = some none)
    (z_abs : PySem.W.nsIn K mainGlobals "abs" = some none)
    (z_all : PySem.W.nsIn K mainGlobals "all" = some none)
    (z_sorted : PySem.W.nsIn K mainGlobals "sorted" = some none)
    (a_RS : PySem.W.nsIn K mainGlobals "Reason" = some (some (.ref RS)))
    (pg_RS : PySem.W.plainGet K RS Str.empty = true)
    (hd_RS : PySem.W.hasDictIn K RS = true)
    (po_RS : PySem.W.plainOver K RS = true)
    (sa_RS : PySem.W.findIn K (.ref RS) "__setattr__" = some (some (.builtin "object.__setattr__")))
    (mk_RS : PySem.W.makesIn K RS = true)
    (kc_RS : PySem.W.keepIn K (.ref RS) = true)
    (nP_RS : PySem.W.findIn K (.ref RS) "stick" = some none)
    (ne_RS : PySem.W.findIn K (.ref RS) "__ne__" = some (some (.builtin "object.__ne__")))
    (ob_RS : PySem.W.mroIn K RS (.type "object") = some true)
    (ha_RS : PySem.W.findIn K (.ref RS) "__class__" = some (some (.builtin "object.__class__")))
    (rd_RS : PySem.W.readsIn K RS (.type "type") = true)
    (ga_RS : PySem.W.specialIn K (.ref RS) "__getattribute__" = some (some (.builtin "type.__getattribute__")))
    (a_SC : PySem.W.nsIn K mainGlobals "StickCount" = some (some (.ref SC)))
    (pg_SC : PySem.W.plainGet K SC Str.empty = true)
    (hd_SC : PySem.W.hasDictIn K SC = true)
    (po_SC : PySem.W.plainOver K SC = true)
    (sa_SC : PySem.W.findIn K (.ref SC) "__setattr__" = some (some (.builtin "object.__setattr__")))
    (mk_SC : PySem.W.makesIn K SC = true)
    (kc_SC : PySem.W.keepIn K (.ref SC) = true)
    (nP_SC : PySem.W.findIn K (.ref SC) "stick" = some none)
    (ne_SC : PySem.W.findIn K (.ref SC) "__ne__" = some (some (.builtin "object.__ne__")))
    (ob_SC : PySem.W.mroIn K SC (.type "object") = some true)
    (ha_SC : PySem.W.findIn K (.ref SC) "__class__" = some (some (.builtin "object.__class__")))
    (rd_SC : PySem.W.readsIn K SC (.type "type") = true)
    (ga_SC : PySem.W.specialIn K (.ref SC) "__getattribute__" = some (some (.builtin "type.__getattribute__")))
    (a_CG : PySem.W.nsIn K mainGlobals "Congruence" = some (some (.ref CG)))
    (pg_CG : PySem.W.plainGet K CG Str.empty = true)
    (hd_CG : PySem.W.hasDictIn K CG = true)
    (po_CG : PySem.W.plainOver K CG = true)
    (sa_CG : PySem.W.findIn K (.ref CG) "__setattr__" = some (some (.builtin "object.__setattr__")))
    (mk_CG : PySem.W.makesIn K CG = true)
    (kc_CG : PySem.W.keepIn K (.ref CG) = true)
    (nP_CG : PySem.W.findIn K (.ref CG) "a" = some none)
    (ne_CG : PySem.W.findIn K (.ref CG) "__ne__" = some (some (.builtin "object.__ne__")))
    (ob_CG : PySem.W.mroIn K CG (.type "object") = some true)
    (ha_CG : PySem.W.findIn K (.ref CG) "__class__" = some (some (.builtin "object.__class__")))
    (rd_CG : PySem.W.readsIn K CG (.type "type") = true)
    (ga_CG : PySem.W.specialIn K (.ref CG) "__getattribute__" = some (some (.builtin "type.__getattribute__")))
    (a_JC : PySem.W.nsIn K mainGlobals "JointCount" = some (some (.ref JC)))
    (pg_JC : PySem.W.plainGet K JC Str.empty = true)
    (hd_JC : PySem.W.hasDictIn K JC = true)
    (po_JC : PySem.W.plainOver K JC = true)
    (sa_JC : PySem.W.findIn K (.ref JC) "__setattr__" = some (some (.builtin "object.__setattr__")))
    (mk_JC : PySem.W.makesIn K JC = true)
    (kc_JC : PySem.W.keepIn K (.ref JC) = true)
    (nP_JC : PySem.W.findIn K (.ref JC) "stick" = some none)
    (ne_JC : PySem.W.findIn K (.ref JC) "__ne__" = some (some (.builtin "object.__ne__")))
    (ob_JC : PySem.W.mroIn K JC (.type "object") = some true)
    (ha_JC : PySem.W.findIn K (.ref JC) "__class__" = some (some (.builtin "object.__class__")))
    (rd_JC : PySem.W.readsIn K JC (.type "type") = true)
    (ga_JC : PySem.W.specialIn K (.ref JC) "__getattribute__" = some (some (.builtin "type.__getattribute__")))
    (nb_CG : PySem.W.findIn K (.ref CG) "b" = some none)
    (nm_CG : PySem.W.findIn K (.ref CG) "modulus" = some none)
    (ini_JC : PySem.W.findIn K (.ref JC) "__init__" = some (some (.builtin "object.__init__")))
    (ini_RS : PySem.W.findIn K (.ref RS) "__init__" = some (some (.builtin "object.__init__")))
    (z_type : PySem.W.nsIn K mainGlobals "type" = some none)
    (z_super : PySem.W.nsIn K mainGlobals "super" = some none)
    (tpA : PySem.W.nsIn K cStatics "thirdparty.any" = some none)
    (ic_RS : PySem.W.isClsIn K RS = true)
    (t_RS : PySem.W.typeIn K (.ref RS) = some (.type "type"))
    (cs_RS : PySem.W.clsIn K RS = some cd_RS)
    (ss_RS : PySem.W.subIn K (.ref RS) (.ref RS) = some true)
    (ts_RS : PySem.W.subIn K (.type "str") (.ref RS) = some false)
    (ic_JC : PySem.W.isClsIn K JC = true)
    (t_JC : PySem.W.typeIn K (.ref JC) = some (.type "type"))
    (cs_JC : PySem.W.clsIn K JC = some cd_JC)
    (ss_JC : PySem.W.subIn K (.ref JC) (.ref JC) = some true)
    (ts_JC : PySem.W.subIn K (.type "str") (.ref JC) = some false)
    (ic_SC : PySem.W.isClsIn K SC = true)
    (t_SC : PySem.W.typeIn K (.ref SC) = some (.type "type"))
    (cs_SC : PySem.W.clsIn K SC = some cd_SC)
    (ss_SC : PySem.W.subIn K (.ref SC) (.ref SC) = some true)
    (ts_SC : PySem.W.subIn K (.type "str") (.ref SC) = some false)
    (ic_CG : PySem.W.isClsIn K CG = true)
    (t_CG : PySem.W.typeIn K (.ref CG) = some (.type "type"))
    (cs_CG : PySem.W.clsIn K CG = some cd_CG)
    (ss_CG : PySem.W.subIn K (.ref CG) (.ref CG) = some true)
    (ts_CG : PySem.W.subIn K (.type "str") (.ref CG) = some false)
    (s_JC : PySem.W.subIn K (.ref JC) (.ref RS) = some true)
    (nq_JC : (Value.ref RS != Value.ref JC) = true)
    (sr_JC : PySem.W.mroIn K JC (.ref JC) = some true)
    (s_SC : PySem.W.subIn K (.ref SC) (.ref RS) = some true)
    (nq_SC : (Value.ref RS != Value.ref SC) = true)
    (sr_SC : PySem.W.mroIn K SC (.ref SC) = some true)
    (s_CG : PySem.W.subIn K (.ref CG) (.ref RS) = some true)
    (nq_CG : (Value.ref RS != Value.ref CG) = true)
    (sr_CG : PySem.W.mroIn K CG (.ref CG) = some true)
    (n_RS_JC : PySem.W.subIn K (.ref RS) (.ref JC) = some false)
    (n_RS_SC : PySem.W.subIn K (.ref RS) (.ref SC) = some false)
    (n_RS_CG : PySem.W.subIn K (.ref RS) (.ref CG) = some false)
    (n_JC_SC : PySem.W.subIn K (.ref JC) (.ref SC) = some false)
    (n_JC_CG : PySem.W.subIn K (.ref JC) (.ref CG) = some false)
    (n_SC_JC : PySem.W.subIn K (.ref SC) (.ref JC) = some false)
    (n_SC_CG : PySem.W.subIn K (.ref SC) (.ref CG) = some false)
    (n_CG_JC : PySem.W.subIn K (.ref CG) (.ref JC) = some false)
    (n_CG_SC : PySem.W.subIn K (.ref CG) (.ref SC) = some false)
    (nn_CG : PySem.W.subIn K (.type "NoneType") (.ref CG) = some false)
    (a__law_source : PySem.W.nsIn K mainGlobals "_law_source" = some (some (.ref f__law_source)))
    (l__law_source : K.lookup f__law_source = some ⟨oc__law_source, od__law_source, .func (PySem.W.fnOf "_law_source" "_law_source" (defArgs s__law_source) (defBody s__law_source) (defScope s__law_source) .none kV__law_source dc__law_source pm__law_source an__law_source cd__law_source ct__law_source), sl__law_source⟩)
    (c__law_source : PySem.W.codeIn K cd__law_source "_law_source" = true)
    (k__law_source : PySem.W.keepIn K (.ref f__law_source) = true)
    (a__law_draw : PySem.W.nsIn K mainGlobals "_law_draw" = some (some (.ref f__law_draw)))
    (l__law_draw : K.lookup f__law_draw = some ⟨oc__law_draw, od__law_draw, .func (PySem.W.fnOf "_law_draw" "_law_draw" (defArgs s__law_draw) (defBody s__law_draw) (defScope s__law_draw) .none kV__law_draw dc__law_draw pm__law_draw an__law_draw cd__law_draw ct__law_draw), sl__law_draw⟩)
    (c__law_draw : PySem.W.codeIn K cd__law_draw "_law_draw" = true)
    (k__law_draw : PySem.W.keepIn K (.ref f__law_draw) = true)
    (a__law_closed : PySem.W.nsIn K mainGlobals "_law_closed" = some (some (.ref f__law_closed)))
    (l__law_closed : K.lookup f__law_closed = some ⟨oc__law_closed, od__law_closed, .func (PySem.W.fnOf "_law_closed" "_law_closed" (defArgs s__law_closed) (defBody s__law_closed) (defScope s__law_closed) .none kV__law_closed dc__law_closed pm__law_closed an__law_closed cd__law_closed ct__law_closed), sl__law_closed⟩)
    (c__law_closed : PySem.W.codeIn K cd__law_closed "_law_closed" = true)
    (k__law_closed : PySem.W.keepIn K (.ref f__law_closed) = true)
    (a__law_drawn : PySem.W.nsIn K mainGlobals "_law_drawn" = some (some (.ref f__law_drawn)))
    (l__law_drawn : K.lookup f__law_drawn = some ⟨oc__law_drawn, od__law_drawn, .func (PySem.W.fnOf "_law_drawn" "_law_drawn" (defArgs s__law_drawn) (defBody s__law_drawn) (defScope s__law_drawn) .none kV__law_drawn dc__law_drawn pm__law_drawn an__law_drawn cd__law_drawn ct__law_drawn), sl__law_drawn⟩)
    (c__law_drawn : PySem.W.codeIn K cd__law_drawn "_law_drawn" = true)
    (k__law_drawn : PySem.W.keepIn K (.ref f__law_drawn) = true)
    (a__law_sticks : PySem.W.nsIn K mainGlobals "_law_sticks" = some (some (.ref f__law_sticks)))
    (l__law_sticks : K.lookup f__law_sticks = some ⟨oc__law_sticks, od__law_sticks, .func (PySem.W.fnOf "_law_sticks" "_law_sticks" (defArgs s__law_sticks) (defBody s__law_sticks) (defScope s__law_sticks) .none kV__law_sticks dc__law_sticks pm__law_sticks an__law_sticks cd__law_sticks ct__law_sticks), sl__law_sticks⟩)
    (c__law_sticks : PySem.W.codeIn K cd__law_sticks "_law_sticks" = true)
    (k__law_sticks : PySem.W.keepIn K (.ref f__law_sticks) = true)
    (a__law_shuffled : PySem.W.nsIn K mainGlobals "_law_shuffled" = some (some (.ref f__law_shuffled)))
    (l__law_shuffled : K.lookup f__law_shuffled = some ⟨oc__law_shuffled, od__law_shuffled, .func (PySem.W.fnOf "_law_shuffled" "_law_shuffled" (defArgs s__law_shuffled) (defBody s__law_shuffled) (defScope s__law_shuffled) .none kV__law_shuffled dc__law_shuffled pm__law_shuffled an__law_shuffled cd__law_shuffled ct__law_shuffled), sl__law_shuffled⟩)
    (c__law_shuffled : PySem.W.codeIn K cd__law_shuffled "_law_shuffled" = true)
    (k__law_shuffled : PySem.W.keepIn K (.ref f__law_shuffled) = true)
    (a__law_rearranged : PySem.W.nsIn K mainGlobals "_law_rearranged" = some (some (.ref f__law_rearranged)))
    (l__law_rearranged : K.lookup f__law_rearranged = some ⟨oc__law_rearranged, od__law_rearranged, .func (PySem.W.fnOf "_law_rearranged" "_law_rearranged" (defArgs s__law_rearranged) (defBody s__law_rearranged) (defScope s__law_rearranged) .none kV__law_rearranged dc__law_rearranged pm__law_rearranged an__law_rearranged cd__law_rearranged ct__law_rearranged), sl__law_rearranged⟩)
    (c__law_rearranged : PySem.W.codeIn K cd__law_rearranged "_law_rearranged" = true)
    (k__law_rearranged : PySem.W.keepIn K (.ref f__law_rearranged) = true)
    (a_is_count : PySem.W.nsIn K mainGlobals "is_count" = some (some (.ref f_is_count)))
    (l_is_count : K.lookup f_is_count = some ⟨oc_is_count, od_is_count, .func (PySem.W.fnOf "is_count" "is_count" (defArgs s_is_count) (defBody s_is_count) (defScope s_is_count) .none kV_is_count dc_is_count pm_is_count an_is_count cd_is_count ct_is_count), sl_is_count⟩)
    (c_is_count : PySem.W.codeIn K cd_is_count "is_count" = true)
    (k_is_count : PySem.W.keepIn K (.ref f_is_count) = true)
    (a_is_number : PySem.W.nsIn K mainGlobals "is_number" = some (some (.ref f_is_number)))
    (l_is_number : K.lookup f_is_number = some ⟨oc_is_number, od_is_number, .func (PySem.W.fnOf "is_number" "is_number" (defArgs s_is_number) (defBody s_is_number) (defScope s_is_number) .none kV_is_number dc_is_number pm_is_number an_is_number cd_is_number ct_is_number), sl_is_number⟩)
    (c_is_number : PySem.W.codeIn K cd_is_number "is_number" = true)
    (k_is_number : PySem.W.keepIn K (.ref f_is_number) = true)
    (a_read_points : PySem.W.nsIn K mainGlobals "read_points" = some (some (.ref f_read_points)))
    (l_read_points : K.lookup f_read_points = some ⟨oc_read_points, od_read_points, .func (PySem.W.fnOf "read_points" "read_points" (defArgs s_read_points) (defBody s_read_points) (defScope s_read_points) .none kV_read_points dc_read_points pm_read_points an_read_points cd_read_points ct_read_points), sl_read_points⟩)
    (c_read_points : PySem.W.codeIn K cd_read_points "read_points" = true)
    (k_read_points : PySem.W.keepIn K (.ref f_read_points) = true)
    (a_check_pairs : PySem.W.nsIn K mainGlobals "check_pairs" = some (some (.ref f_check_pairs)))
    (l_check_pairs : K.lookup f_check_pairs = some ⟨oc_check_pairs, od_check_pairs, .func (PySem.W.fnOf "check_pairs" "check_pairs" (defArgs s_check_pairs) (defBody s_check_pairs) (defScope s_check_pairs) .none kV_check_pairs dc_check_pairs pm_check_pairs an_check_pairs cd_check_pairs ct_check_pairs), sl_check_pairs⟩)
    (c_check_pairs : PySem.W.codeIn K cd_check_pairs "check_pairs" = true)
    (k_check_pairs : PySem.W.keepIn K (.ref f_check_pairs) = true)
    (a_Pinit : PySem.W.findIn K (.ref C) "__init__" = some (some (.ref f_Pinit)))
    (i_Pinit : PySem.W.isFn K (.ref f_Pinit) = true)
    (l_Pinit : K.lookup f_Pinit = some ⟨oc_Pinit, od_Pinit, .func (PySem.W.fnOf "__init__" "Polygon.__init__" (defArgs s_Polygon_init) (defBody s_Polygon_init) (defScope s_Polygon_init) .none kV_Pinit dc_Pinit pm_Pinit an_Pinit cd_Pinit ct_Pinit), sl_Pinit⟩)
    (c_Pinit : PySem.W.codeIn K cd_Pinit "Polygon.__init__" = true)
    (k_Pinit : PySem.W.keepIn K (.ref f_Pinit) = true)
    (a_Pparse : PySem.W.findCls K (.ref C) (.type "type") "parse" = some (.get (.builtin "classmethod.__get__") (.ref p_Pparse) .none (.ref C)))
    (r1_Pparse : PySem.W.recIn K p_Pparse "classmethod" = some (.ref f_Pparse :: r_Pparse))
    (i_Pparse : PySem.W.fnIn K f_Pparse = true)
    (l_Pparse : K.lookup f_Pparse = some ⟨oc_Pparse, od_Pparse, .func (PySem.W.fnOf "parse" "Polygon.parse" (defArgs s_Polygon_parse) (defBody s_Polygon_parse) (defScope s_Polygon_parse) .none kV_Pparse dc_Pparse pm_Pparse an_Pparse cd_Pparse ct_Pparse), sl_Pparse⟩)
    (c_Pparse : PySem.W.codeIn K cd_Pparse "Polygon.parse" = true)
    (k_Pparse : PySem.W.keepIn K (.ref f_Pparse) = true)
    (a__law_made : PySem.W.nsIn K mainGlobals "_law_made" = some (some (.ref f__law_made)))
    (l__law_made : K.lookup f__law_made = some ⟨oc__law_made, od__law_made, .func (PySem.W.fnOf "_law_made" "_law_made" (defArgs s__law_made) (defBody s__law_made) (defScope s__law_made) .none kV__law_made dc__law_made pm__law_made an__law_made cd__law_made ct__law_made), sl__law_made⟩)
    (c__law_made : PySem.W.codeIn K cd__law_made "_law_made" = true)
    (k__law_made : PySem.W.keepIn K (.ref f__law_made) = true)
    (a_Plen : PySem.W.findIn K (.ref C) "__len__" = some (some (.ref f_Plen)))
    (i_Plen : PySem.W.isFn K (.ref f_Plen) = true)
    (l_Plen : K.lookup f_Plen = some ⟨oc_Plen, od_Plen, .func (PySem.W.fnOf "__len__" "Polygon.__len__" (defArgs s_Polygon_len) (defBody s_Polygon_len) (defScope s_Polygon_len) .none kV_Plen dc_Plen pm_Plen an_Plen cd_Plen ct_Plen), sl_Plen⟩)
    (c_Plen : PySem.W.codeIn K cd_Plen "Polygon.__len__" = true)
    (k_Plen : PySem.W.keepIn K (.ref f_Plen) = true)
    (a_minus : PySem.W.nsIn K mainGlobals "minus" = some (some (.ref f_minus)))
    (l_minus : K.lookup f_minus = some ⟨oc_minus, od_minus, .func (PySem.W.fnOf "minus" "minus" (defArgs s_minus) (defBody s_minus) (defScope s_minus) .none kV_minus dc_minus pm_minus an_minus cd_minus ct_minus), sl_minus⟩)
    (c_minus : PySem.W.codeIn K cd_minus "minus" = true)
    (k_minus : PySem.W.keepIn K (.ref f_minus) = true)
    (a_sides_of : PySem.W.nsIn K mainGlobals "sides_of" = some (some (.ref f_sides_of)))
    (l_sides_of : K.lookup f_sides_of = some ⟨oc_sides_of, od_sides_of, .func (PySem.W.fnOf "sides_of" "sides_of" (defArgs s_sides_of) (defBody s_sides_of) (defScope s_sides_of) .none kV_sides_of dc_sides_of pm_sides_of an_sides_of cd_sides_of ct_sides_of), sl_sides_of⟩)
    (c_sides_of : PySem.W.codeIn K cd_sides_of "sides_of" = true)
    (k_sides_of : PySem.W.keepIn K (.ref f_sides_of) = true)
    (a_Psticks : PySem.W.findIn K (.ref C) "sticks" = some (some (.ref p_Psticks)))
    (g_Psticks : PySem.W.specialIn K (.ref p_Psticks) "__get__" = some (some (.builtin "property.__get__")))
    (t_Psticks : PySem.W.takesIn K (.ref p_Psticks) = some true)
    (r1_Psticks : PySem.W.recIn K p_Psticks "property" = some (.ref f_Psticks :: r_Psticks))
    (l_Psticks : K.lookup f_Psticks = some ⟨oc_Psticks, od_Psticks, .func (PySem.W.fnOf "sticks" "Polygon.sticks" (defArgs s_Polygon_sticks) (defBody s_Polygon_sticks) (defScope s_Polygon_sticks) .none kV_Psticks dc_Psticks pm_Psticks an_Psticks cd_Psticks ct_Psticks), sl_Psticks⟩)
    (c_Psticks : PySem.W.codeIn K cd_Psticks "Polygon.sticks" = true)
    (k_Psticks : PySem.W.keepIn K (.ref f_Psticks) = true)
    (a_SCinit : PySem.W.findIn K (.ref SC) "__init__" = some (some (.ref f_SCinit)))
    (i_SCinit : PySem.W.isFn K (.ref f_SCinit) = true)
    (l_SCinit : K.lookup f_SCinit = some ⟨oc_SCinit, od_SCinit, .func (PySem.W.fnOf "__init__" "StickCount.__init__" (defArgs s_StickCount_init) (defBody s_StickCount_init) (defScope s_StickCount_init) .none kV_SCinit dc_SCinit pm_SCinit an_SCinit cd_SCinit ct_SCinit), sl_SCinit⟩)
    (c_SCinit : PySem.W.codeIn K cd_SCinit "StickCount.__init__" = true)
    (k_SCinit : PySem.W.keepIn K (.ref f_SCinit) = true)
    (a_SCholds : PySem.W.findIn K (.ref SC) "holds" = some (some (.ref f_SCholds)))
    (i_SCholds : PySem.W.isFn K (.ref f_SCholds) = true)
    (l_SCholds : K.lookup f_SCholds = some ⟨oc_SCholds, od_SCholds, .func (PySem.W.fnOf "holds" "StickCount.holds" (defArgs s_StickCount_holds) (defBody s_StickCount_holds) (defScope s_StickCount_holds) .none kV_SCholds dc_SCholds pm_SCholds an_SCholds cd_SCholds ct_SCholds), sl_SCholds⟩)
    (c_SCholds : PySem.W.codeIn K cd_SCholds "StickCount.holds" = true)
    (k_SCholds : PySem.W.keepIn K (.ref f_SCholds) = true)
    (a_differences : PySem.W.nsIn K mainGlobals "differences" = some (some (.ref f_differences)))
    (l_differences : K.lookup f_differences = some ⟨oc_differences, od_differences, .func (PySem.W.fnOf "differences" "differences" (defArgs s_differences) (defBody s_differences) (defScope s_differences) .none kV_differences dc_differences pm_differences an_differences cd_differences ct_differences), sl_differences⟩)
    (c_differences : PySem.W.codeIn K cd_differences "differences" = true)
    (k_differences : PySem.W.keepIn K (.ref f_differences) = true)
    (a_CGvanishes : PySem.W.findIn K (.ref CG) "_vanishes" = some (some (.ref f_CGvanishes)))
    (i_CGvanishes : PySem.W.isFn K (.ref f_CGvanishes) = true)
    (l_CGvanishes : K.lookup f_CGvanishes = some ⟨oc_CGvanishes, od_CGvanishes, .func (PySem.W.fnOf "_vanishes" "Congruence._vanishes" (defArgs s_Congruencevanishes) (defBody s_Congruencevanishes) (defScope s_Congruencevanishes) .none kV_CGvanishes dc_CGvanishes pm_CGvanishes an_CGvanishes cd_CGvanishes ct_CGvanishes), sl_CGvanishes⟩)
    (c_CGvanishes : PySem.W.codeIn K cd_CGvanishes "Congruence._vanishes" = true)
    (k_CGvanishes : PySem.W.keepIn K (.ref f_CGvanishes) = true)
    (a_CGholds : PySem.W.findIn K (.ref CG) "holds" = some (some (.ref f_CGholds)))
    (i_CGholds : PySem.W.isFn K (.ref f_CGholds) = true)
    (l_CGholds : K.lookup f_CGholds = some ⟨oc_CGholds, od_CGholds, .func (PySem.W.fnOf "holds" "Congruence.holds" (defArgs s_Congruence_holds) (defBody s_Congruence_holds) (defScope s_Congruence_holds) .none kV_CGholds dc_CGholds pm_CGholds an_CGholds cd_CGholds ct_CGholds), sl_CGholds⟩)
    (c_CGholds : PySem.W.codeIn K cd_CGholds "Congruence.holds" = true)
    (k_CGholds : PySem.W.keepIn K (.ref f_CGholds) = true)
    (a_mixed : PySem.W.nsIn K mainGlobals "mixed" = some (some (.ref f_mixed)))
    (l_mixed : K.lookup f_mixed = some ⟨oc_mixed, od_mixed, .func (PySem.W.fnOf "mixed" "mixed" (defArgs s_mixed) (defBody s_mixed) (defScope s_mixed) .none kV_mixed dc_mixed pm_mixed an_mixed cd_mixed ct_mixed), sl_mixed⟩)
    (c_mixed : PySem.W.codeIn K cd_mixed "mixed" = true)
    (k_mixed : PySem.W.keepIn K (.ref f_mixed) = true)
    (a_cleared : PySem.W.nsIn K mainGlobals "cleared" = some (some (.ref f_cleared)))
    (l_cleared : K.lookup f_cleared = some ⟨oc_cleared, od_cleared, .func (PySem.W.fnOf "cleared" "cleared" (defArgs s_cleared) (defBody s_cleared) (defScope s_cleared) .none kV_cleared dc_cleared pm_cleared an_cleared cd_cleared ct_cleared), sl_cleared⟩)
    (c_cleared : PySem.W.codeIn K cd_cleared "cleared" = true)
    (k_cleared : PySem.W.keepIn K (.ref f_cleared) = true)
    (a_basis : PySem.W.nsIn K mainGlobals "basis" = some (some (.ref f_basis)))
    (l_basis : K.lookup f_basis = some ⟨oc_basis, od_basis, .func (PySem.W.fnOf "basis" "basis" (defArgs s_basis) (defBody s_basis) (defScope s_basis) .none kV_basis dc_basis pm_basis an_basis cd_basis ct_basis), sl_basis⟩)
    (c_basis : PySem.W.codeIn K cd_basis "basis" = true)
    (k_basis : PySem.W.keepIn K (.ref f_basis) = true)
    (a_CGinit : PySem.W.findIn K (.ref CG) "__init__" = some (some (.ref f_CGinit)))
    (i_CGinit : PySem.W.isFn K (.ref f_CGinit) = true)
    (l_CGinit : K.lookup f_CGinit = some ⟨oc_CGinit, od_CGinit, .func (PySem.W.fnOf "__init__" "Congruence.__init__" (defArgs s_Congruence_init) (defBody s_Congruence_init) (defScope s_Congruence_init) .none kV_CGinit dc_CGinit pm_CGinit an_CGinit cd_CGinit ct_CGinit), sl_CGinit⟩)
    (c_CGinit : PySem.W.codeIn K cd_CGinit "Congruence.__init__" = true)
    (k_CGinit : PySem.W.keepIn K (.ref f_CGinit) = true)
    (a_congruences : PySem.W.nsIn K mainGlobals "congruences" = some (some (.ref f_congruences)))
    (l_congruences : K.lookup f_congruences = some ⟨oc_congruences, od_congruences, .func (PySem.W.fnOf "congruences" "congruences" (defArgs s_congruences) (defBody s_congruences) (defScope s_congruences) .none kV_congruences dc_congruences pm_congruences an_congruences cd_congruences ct_congruences), sl_congruences⟩)
    (c_congruences : PySem.W.codeIn K cd_congruences "congruences" = true)
    (k_congruences : PySem.W.keepIn K (.ref f_congruences) = true)
    (a_reason_against : PySem.W.nsIn K mainGlobals "reason_against" = some (some (.ref f_reason_against)))
    (l_reason_against : K.lookup f_reason_against = some ⟨oc_reason_against, od_reason_against, .func (PySem.W.fnOf "reason_against" "reason_against" (defArgs s_reason_against) (defBody s_reason_against) (defScope s_reason_against) .none kV_reason_against dc_reason_against pm_reason_against an_reason_against cd_reason_against ct_reason_against), sl_reason_against⟩)
    (c_reason_against : PySem.W.codeIn K cd_reason_against "reason_against" = true)
    (k_reason_against : PySem.W.keepIn K (.ref f_reason_against) = true)
    (a__law_some_reasons : PySem.W.nsIn K mainGlobals "_law_some_reasons" = some (some (.ref f__law_some_reasons)))
    (l__law_some_reasons : K.lookup f__law_some_reasons = some ⟨oc__law_some_reasons, od__law_some_reasons, .func (PySem.W.fnOf "_law_some_reasons" "_law_some_reasons" (defArgs s__law_some_reasons) (defBody s__law_some_reasons) (defScope s__law_some_reasons) .none kV__law_some_reasons dc__law_some_reasons pm__law_some_reasons an__law_some_reasons cd__law_some_reasons ct__law_some_reasons), sl__law_some_reasons⟩)
    (c__law_some_reasons : PySem.W.codeIn K cd__law_some_reasons "_law_some_reasons" = true)
    (k__law_some_reasons : PySem.W.keepIn K (.ref f__law_some_reasons) = true)
    (a__law_due : PySem.W.nsIn K mainGlobals "_law_due" = some (some (.ref f__law_due)))
    (l__law_due : K.lookup f__law_due = some ⟨oc__law_due, od__law_due, .func (PySem.W.fnOf "_law_due" "_law_due" (defArgs s__law_due) (defBody s__law_due) (defScope s__law_due) .none kV__law_due dc__law_due pm__law_due an__law_due cd__law_due ct__law_due), sl__law_due⟩)
    (c__law_due : PySem.W.codeIn K cd__law_due "_law_due" = true)
    (k__law_due : PySem.W.keepIn K (.ref f__law_due) = true)
    (a__law_text : PySem.W.nsIn K mainGlobals "_law_text" = some (some (.ref f__law_text)))
    (l__law_text : K.lookup f__law_text = some ⟨oc__law_text, od__law_text, .func (PySem.W.fnOf "_law_text" "_law_text" (defArgs s__law_text) (defBody s__law_text) (defScope s__law_text) .none kV__law_text dc__law_text pm__law_text an__law_text cd__law_text ct__law_text), sl__law_text⟩)
    (c__law_text : PySem.W.codeIn K cd__law_text "_law_text" = true)
    (k__law_text : PySem.W.keepIn K (.ref f__law_text) = true)
    (a__law_key : PySem.W.nsIn K mainGlobals "_law_key" = some (some (.ref f__law_key)))
    (l__law_key : K.lookup f__law_key = some ⟨oc__law_key, od__law_key, .func (PySem.W.fnOf "_law_key" "_law_key" (defArgs s__law_key) (defBody s__law_key) (defScope s__law_key) .none kV__law_key dc__law_key pm__law_key an__law_key cd__law_key ct__law_key), sl__law_key⟩)
    (c__law_key : PySem.W.codeIn K cd__law_key "_law_key" = true)
    (k__law_key : PySem.W.keepIn K (.ref f__law_key) = true)
    (a_RSholds : PySem.W.findIn K (.ref RS) "holds" = some (some (.ref f_RSholds)))
    (i_RSholds : PySem.W.isFn K (.ref f_RSholds) = true)
    (l_RSholds : K.lookup f_RSholds = some ⟨oc_RSholds, od_RSholds, .func (PySem.W.fnOf "holds" "Reason.holds" (defArgs s_Reason_holds) (defBody s_Reason_holds) (defScope s_Reason_holds) .none kV_RSholds dc_RSholds pm_RSholds an_RSholds cd_RSholds ct_RSholds), sl_RSholds⟩)
    (c_RSholds : PySem.W.codeIn K cd_RSholds "Reason.holds" = true)
    (k_RSholds : PySem.W.keepIn K (.ref f_RSholds) = true)
    (a_JCholds : PySem.W.findIn K (.ref JC) "holds" = some (some (.ref f_JCholds)))
    (i_JCholds : PySem.W.isFn K (.ref f_JCholds) = true)
    (l_JCholds : K.lookup f_JCholds = some ⟨oc_JCholds, od_JCholds, .func (PySem.W.fnOf "holds" "JointCount.holds" (defArgs s_JointCount_holds) (defBody s_JointCount_holds) (defScope s_JointCount_holds) .none kV_JCholds dc_JCholds pm_JCholds an_JCholds cd_JCholds ct_JCholds), sl_JCholds⟩)
    (c_JCholds : PySem.W.codeIn K cd_JCholds "JointCount.holds" = true)
    (k_JCholds : PySem.W.keepIn K (.ref f_JCholds) = true)
    (a_RStold : PySem.W.findIn K (.ref RS) "told" = some (some (.ref f_RStold)))
    (i_RStold : PySem.W.isFn K (.ref f_RStold) = true)
    (l_RStold : K.lookup f_RStold = some ⟨oc_RStold, od_RStold, .func (PySem.W.fnOf "told" "Reason.told" (defArgs s_Reason_told) (defBody s_Reason_told) (defScope s_Reason_told) .none kV_RStold dc_RStold pm_RStold an_RStold cd_RStold ct_RStold), sl_RStold⟩)
    (c_RStold : PySem.W.codeIn K cd_RStold "Reason.told" = true)
    (k_RStold : PySem.W.keepIn K (.ref f_RStold) = true)
    (a_tJC : PySem.W.findIn K (.ref JC) "told" = some (some (.ref f_tJC)))
    (i_tJC : PySem.W.isFn K (.ref f_tJC) = true)
    (k_tJC : PySem.W.keepIn K (.ref f_tJC) = true)
    (l_tJC : K.lookup f_tJC = some ⟨oc_tJC, od_tJC, .func (PySem.W.ksFn "told" "JointCount.told" (defArgs si_told_JC) (defBody si_told_JC) (defScope si_told_JC) .none kV_tJC dc_tJC pm_tJC an_tJC (.ref cda_tJC) ct_tJC cc_tJC), sl_tJC⟩)
    (co_tJC : PySem.W.codeIn K (.ref cda_tJC) "JointCount.told" = true)
    (dcda_tJC : K.lookup cda_tJC = some ⟨ccl_tJC, cdd_tJC, .fields vs_tJC, ccs_tJC⟩)
    (dcc_tJC : K.lookup cc_tJC = some ⟨cl_tJC, cld_tJC, .cell (some (.ref JC)), csl_tJC⟩)
    (su_tJC : PySem.W.ks_superIn K JC JC "told" = some (some (.ref f_RStold)))
    (ty_RStold : PySem.W.typeIn K (.ref f_RStold) = some (.type "function"))
    (fi_RStold : PySem.W.fnIn K f_RStold = true)
    (a_tSC : PySem.W.findIn K (.ref SC) "told" = some (some (.ref f_tSC)))
    (i_tSC : PySem.W.isFn K (.ref f_tSC) = true)
    (k_tSC : PySem.W.keepIn K (.ref f_tSC) = true)
    (l_tSC : K.lookup f_tSC = some ⟨oc_tSC, od_tSC, .func (PySem.W.ksFn "told" "StickCount.told" (defArgs si_told_SC) (defBody si_told_SC) (defScope si_told_SC) .none kV_tSC dc_tSC pm_tSC an_tSC (.ref cda_tSC) ct_tSC cc_tSC), sl_tSC⟩)
    (co_tSC : PySem.W.codeIn K (.ref cda_tSC) "StickCount.told" = true)
    (dcda_tSC : K.lookup cda_tSC = some ⟨ccl_tSC, cdd_tSC, .fields vs_tSC, ccs_tSC⟩)
    (dcc_tSC : K.lookup cc_tSC = some ⟨cl_tSC, cld_tSC, .cell (some (.ref SC)), csl_tSC⟩)
    (su_tSC : PySem.W.ks_superIn K SC SC "told" = some (some (.ref f_RStold)))
    (a_tCG : PySem.W.findIn K (.ref CG) "told" = some (some (.ref f_tCG)))
    (i_tCG : PySem.W.isFn K (.ref f_tCG) = true)
    (k_tCG : PySem.W.keepIn K (.ref f_tCG) = true)
    (l_tCG : K.lookup f_tCG = some ⟨oc_tCG, od_tCG, .func (PySem.W.ksFn "told" "Congruence.told" (defArgs si_told_CG) (defBody si_told_CG) (defScope si_told_CG) .none kV_tCG dc_tCG pm_tCG an_tCG (.ref cda_tCG) ct_tCG cc_tCG), sl_tCG⟩)
    (co_tCG : PySem.W.codeIn K (.ref cda_tCG) "Congruence.told" = true)
    (dcda_tCG : K.lookup cda_tCG = some ⟨ccl_tCG, cdd_tCG, .fields vs_tCG, ccs_tCG⟩)
    (dcc_tCG : K.lookup cc_tCG = some ⟨cl_tCG, cld_tCG, .cell (some (.ref CG)), csl_tCG⟩)
    (su_tCG : PySem.W.ks_superIn K CG CG "told" = some (some (.ref f_RStold)))
    (a_RSeq : PySem.W.findIn K (.ref RS) "__eq__" = some (some (.ref f_RSeq)))
    (i_RSeq : PySem.W.isFn K (.ref f_RSeq) = true)
    (l_RSeq : K.lookup f_RSeq = some ⟨oc_RSeq, od_RSeq, .func (PySem.W.fnOf "__eq__" "Reason.__eq__" (defArgs s_Reason_eq) (defBody s_Reason_eq) (defScope s_Reason_eq) .none kV_RSeq dc_RSeq pm_RSeq an_RSeq cd_RSeq ct_RSeq), sl_RSeq⟩)
    (c_RSeq : PySem.W.codeIn K cd_RSeq "Reason.__eq__" = true)
    (k_RSeq : PySem.W.keepIn K (.ref f_RSeq) = true)
    (a_JCeq : PySem.W.findIn K (.ref JC) "__eq__" = some (some (.ref f_JCeq)))
    (i_JCeq : PySem.W.isFn K (.ref f_JCeq) = true)
    (l_JCeq : K.lookup f_JCeq = some ⟨oc_JCeq, od_JCeq, .func (PySem.W.fnOf "__eq__" "JointCount.__eq__" (defArgs s_JointCount_eq) (defBody s_JointCount_eq) (defScope s_JointCount_eq) .none kV_JCeq dc_JCeq pm_JCeq an_JCeq cd_JCeq ct_JCeq), sl_JCeq⟩)
    (c_JCeq : PySem.W.codeIn K cd_JCeq "JointCount.__eq__" = true)
    (k_JCeq : PySem.W.keepIn K (.ref f_JCeq) = true)
    (a_SCeq : PySem.W.findIn K (.ref SC) "__eq__" = some (some (.ref f_SCeq)))
    (i_SCeq : PySem.W.isFn K (.ref f_SCeq) = true)
    (l_SCeq : K.lookup f_SCeq = some ⟨oc_SCeq, od_SCeq, .func (PySem.W.fnOf "__eq__" "StickCount.__eq__" (defArgs s_StickCount_eq) (defBody s_StickCount_eq) (defScope s_StickCount_eq) .none kV_SCeq dc_SCeq pm_SCeq an_SCeq cd_SCeq ct_SCeq), sl_SCeq⟩)
    (c_SCeq : PySem.W.codeIn K cd_SCeq "StickCount.__eq__" = true)
    (k_SCeq : PySem.W.keepIn K (.ref f_SCeq) = true)
    (a_CGeq : PySem.W.findIn K (.ref CG) "__eq__" = some (some (.ref f_CGeq)))
    (i_CGeq : PySem.W.isFn K (.ref f_CGeq) = true)
    (l_CGeq : K.lookup f_CGeq = some ⟨oc_CGeq, od_CGeq, .func (PySem.W.fnOf "__eq__" "Congruence.__eq__" (defArgs s_Congruence_eq) (defBody s_Congruence_eq) (defScope s_Congruence_eq) .none kV_CGeq dc_CGeq pm_CGeq an_CGeq cd_CGeq ct_CGeq), sl_CGeq⟩)
    (c_CGeq : PySem.W.codeIn K cd_CGeq "Congruence.__eq__" = true)
    (k_CGeq : PySem.W.keepIn K (.ref f_CGeq) = true)
    (a_law : PySem.W.nsIn K mainGlobals "law" = some (some (.ref f_law)))
    (l_law : K.lookup f_law = some ⟨oc_law, od_law, .func (PySem.W.fnOf "law" "law" (defArgs s_law) (defBody s_law) (defScope s_law) .none kV_law dc_law pm_law an_law cd_law ct_law), sl_law⟩)
    (c_law : PySem.W.codeIn K cd_law "law" = true)
    (k_law : PySem.W.keepIn K (.ref f_law) = true)
    (topS : (l.prog.main.scope.names.lookup ("super" : Str)).isSome = false)
    (v2_tJC : vs_tJC[2]? = some (.str fi_tJC tf_tJC))
    (vf_tJC : ((l.prog.main.file : Str) == fi_tJC) = true)
    (v2_tSC : vs_tSC[2]? = some (.str fi_tSC tf_tSC))
    (vf_tSC : ((l.prog.main.file : Str) == fi_tSC) = true)
    (v2_tCG : vs_tCG[2]? = some (.str fi_tCG tf_tCG))
    (vf_tCG : ((l.prog.main.file : Str) == fi_tCG) = true) :
    ∀ base : Heap, K.In base → base.Ns mainGlobals mg → FnG l.prog w K mg base CX0 11 fa (spLaw K) := by
  have e := hfa.symm.trans (PySem.W.mg_of X G a_law)
  cases e
  have cl_P : Cls K C := ⟨pg_P, hd_P, po_P, sa_P⟩
  have T : Tx K mg C := ⟨PySem.W.mg_none_of X G z_len, PySem.W.mg_none_of X G z_max, PySem.W.mg_none_of X G z_min, PySem.W.mg_none_of X G z_range, PySem.W.mg_none_of X G z_enumerate, PySem.W.mg_none_of X G z_zip, PySem.W.mg_none_of X G z_list, PySem.W.mg_none_of X G z_tuple, PySem.W.mg_none_of X G z_int, PySem.W.mg_none_of X G z_str, PySem.W.mg_none_of X G z_sum, PySem.W.mg_none_of X G z_isinstance, PySem.W.mg_none_of X G z_any, PySem.W.mg_none_of X G z_repr, PySem.W.mg_none_of X G z_set, PySem.W.mg_none_of X G z_abs, PySem.W.mg_none_of X G z_all, PySem.W.mg_none_of X G z_sorted, PySem.W.mg_of X G a_P, ⟨lt, PySem.W.mg_of X G least⟩, cl_P, nP_P, ⟨cl_P, ha_P, hn, htk, ob_P⟩, if_pos (beq_self_eq_true _), ⟨.type "type", _, ⟨rd_P, ga_P⟩, ⟨most, ⟨_, rfl⟩⟩⟩⟩
  have cl_SC : Cls K SC := ⟨pg_SC, hd_SC, po_SC, sa_SC⟩
  have cl_CG : Cls K CG := ⟨pg_CG, hd_CG, po_CG, sa_CG⟩
  have cl_JC : Cls K JC := ⟨pg_JC, hd_JC, po_JC, sa_JC⟩
  have TR : TxR K mg JC SC CG := ⟨PySem.W.mg_of X G a_JC, PySem.W.mg_of X G a_SC, PySem.W.mg_of X G a_CG, cl_JC, cl_SC, cl_CG, nP_SC, nP_CG, nb_CG, nm_CG, ⟨cl_JC, ha_JC, hn, htk, ob_JC⟩, ⟨cl_SC, ha_SC, hn, htk, ob_SC⟩, ⟨cl_CG, ha_CG, hn, htk, ob_CG⟩, if_pos (beq_self_eq_true _), if_pos (beq_self_eq_true _), if_pos (beq_self_eq_true _), ⟨mk_JC, ini_JC, kc_JC⟩⟩
  have cl_RS : Cls K RS := ⟨pg_RS, hd_RS, po_RS, sa_RS⟩
  have TRs : TxRs K mg RS JC SC CG := ⟨PySem.W.mg_of X G a_RS, cl_RS, ⟨cl_RS, ha_RS, hn, htk, ob_RS⟩, ⟨mk_RS, ini_RS, kc_RS⟩, lk_of t_RS, PySem.W.mg_none_of X G z_type, if_pos (beq_self_eq_true _), kit_ref ic_RS t_RS s_JC ss_JC, kit_ref ic_RS t_RS s_SC ss_SC, kit_ref ic_RS t_RS s_CG ss_CG, kit_ref ic_JC t_JC n_RS_JC ss_RS, kit_ref ic_SC t_SC n_RS_SC ss_RS, kit_ref ic_CG t_CG n_RS_CG ss_RS, kit_ref ic_SC t_SC n_JC_SC ss_JC, kit_ref ic_CG t_CG n_JC_CG ss_JC, kit_ref ic_CG t_CG n_SC_CG ss_SC, kit_no cs_JC t_JC ts_JC, kit_no cs_SC t_SC ts_SC, kit_no cs_CG t_CG ts_CG, kit_no cs_CG t_CG nn_CG, s_JC, s_SC, s_CG, nq_JC, nq_SC, nq_CG, n_RS_JC, n_RS_SC, n_RS_CG, n_JC_SC, n_JC_CG, n_SC_JC, n_SC_CG, n_CG_JC, n_CG_SC, ts_RS, ts_JC, ts_SC, ts_CG⟩
  have TR2 : TxR2 K JC SC CG := ⟨kit_ref ic_JC t_JC n_SC_JC ss_SC, kit_ref ic_JC t_JC n_CG_JC ss_CG, kit_ref ic_SC t_SC n_CG_SC ss_CG⟩
  intro base _ _
  have q__law_source : Cal l.prog w K mg base 1 "_law_source" (spSource K) := ⟨⟨f__law_source, _, ["script", "index"], ok__law_source (fun_mk (st := s__law_source) l__law_source c__law_source k__law_source) T , PySem.W.mg_of X G a__law_source, k__law_source, ((fun_mk (st := s__law_source) l__law_source c__law_source k__law_source).binds (ps := ["script", "index"]) fun _ _ _ _ _ _ us hl => match us, hl with | [_, _], _ => rfl)⟩⟩
  have q__law_draw : Cal l.prog w K mg base 1 "_law_draw" (spDraw K) := ⟨⟨f__law_draw, _, ["source", "bound"], ok__law_draw (fun_mk (st := s__law_draw) l__law_draw c__law_draw k__law_draw) T , PySem.W.mg_of X G a__law_draw, k__law_draw, ((fun_mk (st := s__law_draw) l__law_draw c__law_draw k__law_draw).binds (ps := ["source", "bound"]) fun _ _ _ _ _ _ us hl => match us, hl with | [_, _], _ => rfl)⟩⟩
  have q__law_closed : Cal l.prog w K mg base 1 "_law_closed" (spClosed K) := ⟨⟨f__law_closed, _, ["start", "sticks"], ok__law_closed (fun_mk (st := s__law_closed) l__law_closed c__law_closed k__law_closed) T , PySem.W.mg_of X G a__law_closed, k__law_closed, ((fun_mk (st := s__law_closed) l__law_closed c__law_closed k__law_closed).binds (ps := ["start", "sticks"]) fun _ _ _ _ _ _ us hl => match us, hl with | [_, _], _ => rfl)⟩⟩
  have q__law_drawn : Cal l.prog w K mg base 2 "_law_drawn" (spDrawn K) := ⟨⟨f__law_drawn, _, ["source", "sides"], ok__law_drawn (fun_mk (st := s__law_drawn) l__law_drawn c__law_drawn k__law_drawn) T q__law_draw q__law_closed, PySem.W.mg_of X G a__law_drawn, k__law_drawn, ((fun_mk (st := s__law_drawn) l__law_drawn c__law_drawn k__law_drawn).binds (ps := ["source", "sides"]) fun _ _ _ _ _ _ us hl => match us, hl with | [_, _], _ => rfl)⟩⟩
  have q__law_sticks : Cal l.prog w K mg base 1 "_law_sticks" (spSticksL K) := ⟨⟨f__law_sticks, _, ["points"], ok__law_sticks (fun_mk (st := s__law_sticks) l__law_sticks c__law_sticks k__law_sticks) T , PySem.W.mg_of X G a__law_sticks, k__law_sticks, ((fun_mk (st := s__law_sticks) l__law_sticks c__law_sticks k__law_sticks).binds (ps := ["points"]) fun _ _ _ _ _ _ us hl => match us, hl with | [_], _ => rfl)⟩⟩
  have q__law_shuffled : Cal l.prog w K mg base 2 "_law_shuffled" (spShuf K) := ⟨⟨f__law_shuffled, _, ["source", "things"], ok__law_shuffled (fun_mk (st := s__law_shuffled) l__law_shuffled c__law_shuffled k__law_shuffled) T q__law_draw, PySem.W.mg_of X G a__law_shuffled, k__law_shuffled, ((fun_mk (st := s__law_shuffled) l__law_shuffled c__law_shuffled k__law_shuffled).binds (ps := ["source", "things"]) fun _ _ _ _ _ _ us hl => match us, hl with | [_, _], _ => rfl)⟩⟩
  have q_closedE : Cal l.prog w K mg base 1 "_law_closed" (spClosedE K) := ⟨⟨f__law_closed, _, ["start", "sticks"], ok_closedE (fun_mk (st := s__law_closed) l__law_closed c__law_closed k__law_closed) T , PySem.W.mg_of X G a__law_closed, k__law_closed, ((fun_mk (st := s__law_closed) l__law_closed c__law_closed k__law_closed).binds (ps := ["start", "sticks"]) fun _ _ _ _ _ _ us hl => match us, hl with | [_, _], _ => rfl)⟩⟩
  have q__law_rearranged : Cal l.prog w K mg base 3 "_law_rearranged" (spRearr K) := ⟨⟨f__law_rearranged, _, ["source", "points", "reach"], ok__law_rearranged (fun_mk (st := s__law_rearranged) l__law_rearranged c__law_rearranged k__law_rearranged) T q__law_draw q__law_sticks q__law_shuffled q_closedE, PySem.W.mg_of X G a__law_rearranged, k__law_rearranged, ((fun_mk (st := s__law_rearranged) l__law_rearranged c__law_rearranged k__law_rearranged).binds (ps := ["source", "points", "reach"]) fun _ _ _ _ _ _ us hl => match us, hl with | [_, _, _], _ => rfl)⟩⟩
  have q_is_count : Cal l.prog w K mg base 1 "is_count" (spCount K) := ⟨⟨f_is_count, _, ["word"], ok_is_count (fun_mk (st := s_is_count) l_is_count c_is_count k_is_count) T , PySem.W.mg_of X G a_is_count, k_is_count, ((fun_mk (st := s_is_count) l_is_count c_is_count k_is_count).binds (ps := ["word"]) fun _ _ _ _ _ _ us hl => match us, hl with | [_], _ => rfl)⟩⟩
  have q_is_number : Cal l.prog w K mg base 2 "is_number" (spNumber K) := ⟨⟨f_is_number, _, ["word"], ok_is_number (fun_mk (st := s_is_number) l_is_number c_is_number k_is_number) T q_is_count, PySem.W.mg_of X G a_is_number, k_is_number, ((fun_mk (st := s_is_number) l_is_number c_is_number k_is_number).binds (ps := ["word"]) fun _ _ _ _ _ _ us hl => match us, hl with | [_], _ => rfl)⟩⟩
  have q_read_points : Cal l.prog w K mg base 3 "read_points" (spRead K) := ⟨⟨f_read_points, _, ["text"], ok_read_points (fun_mk (st := s_read_points) l_read_points c_read_points k_read_points) T q_is_number, PySem.W.mg_of X G a_read_points, k_read_points, ((fun_mk (st := s_read_points) l_read_points c_read_points k_read_points).binds (ps := ["text"]) fun _ _ _ _ _ _ us hl => match us, hl with | [_], _ => rfl)⟩⟩
  have q_check_pairs : Cal l.prog w K mg base 1 "check_pairs" (spPairs K) := ⟨⟨f_check_pairs, _, ["pairs"], ok_check_pairs (fun_mk (st := s_check_pairs) l_check_pairs c_check_pairs k_check_pairs) T , PySem.W.mg_of X G a_check_pairs, k_check_pairs, ((fun_mk (st := s_check_pairs) l_check_pairs c_check_pairs k_check_pairs).binds (ps := ["pairs"]) fun _ _ _ _ _ _ us hl => match us, hl with | [_], _ => rfl)⟩⟩
  have q_mk : MkR l.prog w K mg base 2 C "Polygon" (spInit K C) := ⟨PySem.W.mg_of X G a_P, f_Pinit, ⟨mk_P, a_Pinit, i_Pinit, kc_P⟩, ok_Polygon_init (fun_mk (st := s_Polygon_init) l_Pinit c_Pinit k_Pinit) T q_check_pairs⟩
  have q_parse : CmtR l.prog w K mg base 4 C "parse" (spParse K C) := ⟨⟨.type "type", p_Pparse, f_Pparse, ⟨rd_P, ga_P⟩, ⟨a_Pparse, ⟨_, r1_Pparse⟩, i_Pparse⟩, (ok_Polygon_parse (fun_mk (st := s_Polygon_parse) l_Pparse c_Pparse k_Pparse) T q_read_points q_mk).raw0 ((fun_mk (st := s_Polygon_parse) l_Pparse c_Pparse k_Pparse).binds (ps := ["cls", "text"]) fun _ _ _ _ _ _ us hl => match us, hl with | [_, _], _ => rfl)⟩⟩
  have q__law_made : Cal l.prog w K mg base 5 "_law_made" (spMade K C) := ⟨⟨f__law_made, _, ["points"], ok__law_made (fun_mk (st := s__law_made) l__law_made c__law_made k__law_made) T q_parse, PySem.W.mg_of X G a__law_made, k__law_made, ((fun_mk (st := s__law_made) l__law_made c__law_made k__law_made).binds (ps := ["points"]) fun _ _ _ _ _ _ us hl => match us, hl with | [_], _ => rfl)⟩⟩
  have q_len : LenR l.prog w K mg base 1 C (spLenP K C) := ⟨f_Plen, ⟨a_Plen, i_Plen⟩, (ok_Polygon_len (fun_mk (st := s_Polygon_len) l_Plen c_Plen k_Plen) T ).raw0 ((fun_mk (st := s_Polygon_len) l_Plen c_Plen k_Plen).binds (ps := ["self"]) fun _ _ _ _ _ _ us hl => match us, hl with | [_], _ => rfl)⟩
  have q_minus : Cal l.prog w K mg base 1 "minus" (spMinus K) := ⟨⟨f_minus, _, ["first", "second"], ok_minus (fun_mk (st := s_minus) l_minus c_minus k_minus) T , PySem.W.mg_of X G a_minus, k_minus, ((fun_mk (st := s_minus) l_minus c_minus k_minus).binds (ps := ["first", "second"]) fun _ _ _ _ _ _ us hl => match us, hl with | [_, _], _ => rfl)⟩⟩
  have q_sides_of : Cal l.prog w K mg base 1 "sides_of" (spSides K) := ⟨⟨f_sides_of, _, ["points"], ok_sides_of (fun_mk (st := s_sides_of) l_sides_of c_sides_of k_sides_of) T , PySem.W.mg_of X G a_sides_of, k_sides_of, ((fun_mk (st := s_sides_of) l_sides_of c_sides_of k_sides_of).binds (ps := ["points"]) fun _ _ _ _ _ _ us hl => match us, hl with | [_], _ => rfl)⟩⟩
  have q_sticks : PrpR l.prog w K mg base 2 C "sticks" (spSticks K C) := ⟨cl_P, p_Psticks, f_Psticks, _, ["self"], ⟨a_Psticks, g_Psticks, t_Psticks, ⟨_, r1_Psticks⟩⟩, ok_Polygon_sticks (fun_mk (st := s_Polygon_sticks) l_Psticks c_Psticks k_Psticks) T q_minus q_sides_of, ((fun_mk (st := s_Polygon_sticks) l_Psticks c_Psticks k_Psticks).binds (ps := ["self"]) fun _ _ _ _ _ _ us hl => match us, hl with | [_], _ => rfl)⟩
  have q_iniS : MkR l.prog w K mg base 1 SC "StickCount" (spIniS K SC) := ⟨PySem.W.mg_of X G a_SC, f_SCinit, ⟨mk_SC, a_SCinit, i_SCinit, kc_SC⟩, (ok_StickCount_init (fun_mk (st := s_StickCount_init) l_SCinit c_SCinit k_SCinit) T TR).raw0 ((fun_mk (st := s_StickCount_init) l_SCinit c_SCinit k_SCinit).binds (ps := ["self", "stick"]) fun _ _ _ _ _ _ us hl => match us, hl with | [_, _], _ => rfl)⟩
  have q_sticksF : PrpR l.prog w K mg base 2 C "sticks" (spSticksF K C) := ⟨cl_P, p_Psticks, f_Psticks, _, ["self"], ⟨a_Psticks, g_Psticks, t_Psticks, ⟨_, r1_Psticks⟩⟩, ok_sticksF (fun_mk (st := s_Polygon_sticks) l_Psticks c_Psticks k_Psticks) T q_minus q_sides_of, ((fun_mk (st := s_Polygon_sticks) l_Psticks c_Psticks k_Psticks).binds (ps := ["self"]) fun _ _ _ _ _ _ us hl => match us, hl with | [_], _ => rfl)⟩
  have q_holdS : MetR l.prog w K mg base 4 SC "holds" (spHoldS K C SC) := ⟨cl_SC, f_SCholds, ⟨a_SCholds, i_SCholds, k_SCholds⟩, (ok_StickCount_holds (fun_mk (st := s_StickCount_holds) l_SCholds c_SCholds k_SCholds) T TR q_sticksF).raw0 ((fun_mk (st := s_StickCount_holds) l_SCholds c_SCholds k_SCholds).binds (ps := ["self", "start", "goal"]) fun _ _ _ _ _ _ us hl => match us, hl with | [_, _, _], _ => rfl)⟩
  have q_differences : Cal l.prog w K mg base 2 "differences" (spDiff K) := ⟨⟨f_differences, _, ["vectors"], ok_differences (fun_mk (st := s_differences) l_differences c_differences k_differences) T q_minus, PySem.W.mg_of X G a_differences, k_differences, ((fun_mk (st := s_differences) l_differences c_differences k_differences).binds (ps := ["vectors"]) fun _ _ _ _ _ _ us hl => match us, hl with | [_], _ => rfl)⟩⟩
  have q_van : MetR l.prog w K mg base 1 CG "_vanishes" (spVan K CG) := ⟨cl_CG, f_CGvanishes, ⟨a_CGvanishes, i_CGvanishes, k_CGvanishes⟩, (ok_Congruencevanishes (fun_mk (st := s_Congruencevanishes) l_CGvanishes c_CGvanishes k_CGvanishes) T TR).raw0 ((fun_mk (st := s_Congruencevanishes) l_CGvanishes c_CGvanishes k_CGvanishes).binds (ps := ["self", "vector"]) fun _ _ _ _ _ _ us hl => match us, hl with | [_, _], _ => rfl)⟩
  have q_holdC : MetR l.prog w K mg base 4 CG "holds" (spHoldC K C CG) := ⟨cl_CG, f_CGholds, ⟨a_CGholds, i_CGholds, k_CGholds⟩, (ok_Congruence_holds (fun_mk (st := s_Congruence_holds) l_CGholds c_CGholds k_CGholds) T TR q_sticks q_differences q_minus q_van).raw0 ((fun_mk (st := s_Congruence_holds) l_CGholds c_CGholds k_CGholds).binds (ps := ["self", "start", "goal"]) fun _ _ _ _ _ _ us hl => match us, hl with | [_, _, _], _ => rfl)⟩
  have q_mixed : Cal l.prog w K mg base 1 "mixed" (spMixed K) := ⟨⟨f_mixed, _, ["factor", "row", "other_factor", "other"], ok_mixed (fun_mk (st := s_mixed) l_mixed c_mixed k_mixed) T , PySem.W.mg_of X G a_mixed, k_mixed, ((fun_mk (st := s_mixed) l_mixed c_mixed k_mixed).binds (ps := ["factor", "row", "other_factor", "other"]) fun _ _ _ _ _ _ us hl => match us, hl with | [_, _, _, _], _ => rfl)⟩⟩
  have q_cleared : Cal l.prog w K mg base 2 "cleared" (spCleared K) := ⟨⟨f_cleared, _, ["row", "other", "column"], ok_cleared (fun_mk (st := s_cleared) l_cleared c_cleared k_cleared) T q_mixed, PySem.W.mg_of X G a_cleared, k_cleared, ((fun_mk (st := s_cleared) l_cleared c_cleared k_cleared).binds (ps := ["row", "other", "column"]) fun _ _ _ _ _ _ us hl => match us, hl with | [_, _, _], _ => rfl)⟩⟩
  have q_basis : Cal l.prog w K mg base 3 "basis" (spBasis K) := ⟨⟨f_basis, _, ["vectors"], ok_basis (fun_mk (st := s_basis) l_basis c_basis k_basis) T q_mixed q_cleared, PySem.W.mg_of X G a_basis, k_basis, ((fun_mk (st := s_basis) l_basis c_basis k_basis).binds (ps := ["vectors"]) fun _ _ _ _ _ _ us hl => match us, hl with | [_], _ => rfl)⟩⟩
  have q_iniC : MkR l.prog w K mg base 1 CG "Congruence" (spIniC K CG) := ⟨PySem.W.mg_of X G a_CG, f_CGinit, ⟨mk_CG, a_CGinit, i_CGinit, kc_CG⟩, (ok_Congruence_init (fun_mk (st := s_Congruence_init) l_CGinit c_CGinit k_CGinit) T TR).raw0 ((fun_mk (st := s_Congruence_init) l_CGinit c_CGinit k_CGinit).binds (ps := ["self", "a", "b", "modulus"]) fun _ _ _ _ _ _ us hl => match us, hl with | [_, _, _, _], _ => rfl)⟩
  have q_congruences : Cal l.prog w K mg base 5 "congruences" (spCongs K C CG) := ⟨⟨f_congruences, _, ["polygon"], ok_congruences (fun_mk (st := s_congruences) l_congruences c_congruences k_congruences) T TR q_sticks q_differences q_basis q_iniC, PySem.W.mg_of X G a_congruences, k_congruences, ((fun_mk (st := s_congruences) l_congruences c_congruences k_congruences).binds (ps := ["polygon"]) fun _ _ _ _ _ _ us hl => match us, hl with | [_], _ => rfl)⟩⟩
  have q_reason_against : Cal l.prog w K mg base 7 "reason_against" (spReason K C JC SC CG) := ⟨⟨f_reason_against, _, ["start", "goal"], ok_reason_against (fun_mk (st := s_reason_against) l_reason_against c_reason_against k_reason_against) T TR q_len q_sticks q_iniS q_holdS q_holdC q_congruences, PySem.W.mg_of X G a_reason_against, k_reason_against, ((fun_mk (st := s_reason_against) l_reason_against c_reason_against k_reason_against).binds (ps := ["start", "goal"]) fun _ _ _ _ _ _ us hl => match us, hl with | [_, _], _ => rfl)⟩⟩
  have q_iniSK : MkK l.prog w K mg base 1 SC "StickCount" ["stick"] (spIniS K SC) := ⟨PySem.W.mg_of X G a_SC, f_SCinit, _, _, ⟨mk_SC, a_SCinit, i_SCinit, kc_SC⟩, ok_StickCount_init (fun_mk (st := s_StickCount_init) l_SCinit c_SCinit k_SCinit) T TR, fun_kbinds (fun_mk (st := s_StickCount_init) l_SCinit c_SCinit k_SCinit) fun _ _ _ _ _ _ us ws h1 h2 => match us, ws, h1, h2 with | [_], [_], _, _ => rfl⟩
  have q_iniCK : MkK l.prog w K mg base 1 CG "Congruence" ["a", "b", "modulus"] (spIniC K CG) := ⟨PySem.W.mg_of X G a_CG, f_CGinit, _, _, ⟨mk_CG, a_CGinit, i_CGinit, kc_CG⟩, ok_Congruence_init (fun_mk (st := s_Congruence_init) l_CGinit c_CGinit k_CGinit) T TR, fun_kbinds (fun_mk (st := s_Congruence_init) l_CGinit c_CGinit k_CGinit) fun _ _ _ _ _ _ us ws h1 h2 => match us, ws, h1, h2 with | [_], [_, _, _], _, _ => rfl⟩
  have q__law_some_reasons : Cal l.prog w K mg base 9 "_law_some_reasons" (spSomeR K RS JC SC CG) := ⟨⟨f__law_some_reasons, _, ["source", "start", "goal"], ok__law_some_reasons (fun_mk (st := s__law_some_reasons) l__law_some_reasons c__law_some_reasons k__law_some_reasons) T TRs TR q__law_sticks q__law_draw q__law_made q_reason_against q_iniS q_iniC q_iniSK q_iniCK, PySem.W.mg_of X G a__law_some_reasons, k__law_some_reasons, ((fun_mk (st := s__law_some_reasons) l__law_some_reasons c__law_some_reasons k__law_some_reasons).binds (ps := ["source", "start", "goal"]) fun _ _ _ _ _ _ us hl => match us, hl with | [_, _, _], _ => rfl)⟩⟩
  have q_sticksLF : Cal l.prog w K mg base 1 "_law_sticks" (spSticksLF K) := ⟨⟨f__law_sticks, _, ["points"], ok_sticksLF (fun_mk (st := s__law_sticks) l__law_sticks c__law_sticks k__law_sticks) T , PySem.W.mg_of X G a__law_sticks, k__law_sticks, ((fun_mk (st := s__law_sticks) l__law_sticks c__law_sticks k__law_sticks).binds (ps := ["points"]) fun _ _ _ _ _ _ us hl => match us, hl with | [_], _ => rfl)⟩⟩
  have q__law_due : Cal l.prog w K mg base 2 "_law_due" (spDueR K RS JC SC CG) := ⟨⟨f__law_due, _, ["reason", "start", "goal"], ok__law_due (fun_mk (st := s__law_due) l__law_due c__law_due k__law_due) T TRs TR TR2 q__law_sticks q_sticksLF, PySem.W.mg_of X G a__law_due, k__law_due, ((fun_mk (st := s__law_due) l__law_due c__law_due k__law_due).binds (ps := ["reason", "start", "goal"]) fun _ _ _ _ _ _ us hl => match us, hl with | [_, _, _], _ => rfl)⟩⟩
  have q__law_text : Cal l.prog w K mg base 1 "_law_text" (spTextR K RS JC SC CG) := ⟨⟨f__law_text, _, ["reason"], ok__law_text (fun_mk (st := s__law_text) l__law_text c__law_text k__law_text) T TRs TR TR2, PySem.W.mg_of X G a__law_text, k__law_text, ((fun_mk (st := s__law_text) l__law_text c__law_text k__law_text).binds (ps := ["reason"]) fun _ _ _ _ _ _ us hl => match us, hl with | [_], _ => rfl)⟩⟩
  have q__law_key : Cal l.prog w K mg base 1 "_law_key" (spKeyR K RS JC SC CG) := ⟨⟨f__law_key, _, ["reason"], ok__law_key (fun_mk (st := s__law_key) l__law_key c__law_key k__law_key) T TRs TR TR2, PySem.W.mg_of X G a__law_key, k__law_key, ((fun_mk (st := s__law_key) l__law_key c__law_key k__law_key).binds (ps := ["reason"]) fun _ _ _ _ _ _ us hl => match us, hl with | [_], _ => rfl)⟩⟩
  have q_hold0 : MetR l.prog w K mg base 1 RS "holds" (spHoldR K C RS) := ⟨cl_RS, f_RSholds, ⟨a_RSholds, i_RSholds, k_RSholds⟩, (ok_Reason_holds (fun_mk (st := s_Reason_holds) l_RSholds c_RSholds k_RSholds) T ).raw0 ((fun_mk (st := s_Reason_holds) l_RSholds c_RSholds k_RSholds).binds (ps := ["self", "start", "goal"]) fun _ _ _ _ _ _ us hl => match us, hl with | [_, _, _], _ => rfl)⟩
  have q_holdJ : MetR l.prog w K mg base 3 JC "holds" (spHoldJ K C JC) := ⟨cl_JC, f_JCholds, ⟨a_JCholds, i_JCholds, k_JCholds⟩, (ok_JointCount_holds (fun_mk (st := s_JointCount_holds) l_JCholds c_JCholds k_JCholds) T q_len).raw0 ((fun_mk (st := s_JointCount_holds) l_JCholds c_JCholds k_JCholds).binds (ps := ["self", "start", "goal"]) fun _ _ _ _ _ _ us hl => match us, hl with | [_, _, _], _ => rfl)⟩
  have q_told0 : MetR l.prog w K mg base 1 RS "told" (spToldA K) := ⟨cl_RS, f_RStold, ⟨a_RStold, i_RStold, k_RStold⟩, (ok_Reason_told (fun_mk (st := s_Reason_told) l_RStold c_RStold k_RStold) T ).raw0 ((fun_mk (st := s_Reason_told) l_RStold c_RStold k_RStold).binds (ps := ["self"]) fun _ _ _ _ _ _ us hl => match us, hl with | [_], _ => rfl)⟩
  have q_toldJC : MetR l.prog w K mg base 2 JC "told" (spToldJC K JC) := ⟨cl_JC, f_tJC, ⟨a_tJC, i_tJC, k_tJC⟩, ok_told_JC l_tJC co_tJC dcda_tJC v2_tJC vf_tJC dcc_tJC cs_JC sr_JC (PySem.W.mg_none_of X G z_super) topS tpA su_tJC ty_RStold fi_RStold ((ok_Reason_told (fun_mk (st := s_Reason_told) l_RStold c_RStold k_RStold) T).raw0 ((fun_mk (st := s_Reason_told) l_RStold c_RStold k_RStold).binds (ps := ["self"]) fun _ _ _ _ _ _ us hl => match us, hl with | [_], _ => rfl))⟩
  have q_toldSC : MetR l.prog w K mg base 2 SC "told" (spToldSC K SC) := ⟨cl_SC, f_tSC, ⟨a_tSC, i_tSC, k_tSC⟩, ok_told_SC l_tSC co_tSC dcda_tSC v2_tSC vf_tSC dcc_tSC cs_SC sr_SC (PySem.W.mg_none_of X G z_super) topS tpA su_tSC ty_RStold fi_RStold ((ok_Reason_told (fun_mk (st := s_Reason_told) l_RStold c_RStold k_RStold) T).raw0 ((fun_mk (st := s_Reason_told) l_RStold c_RStold k_RStold).binds (ps := ["self"]) fun _ _ _ _ _ _ us hl => match us, hl with | [_], _ => rfl)) TR⟩
  have q_toldCG : MetR l.prog w K mg base 2 CG "told" (spToldCG K CG) := ⟨cl_CG, f_tCG, ⟨a_tCG, i_tCG, k_tCG⟩, ok_told_CG l_tCG co_tCG dcda_tCG v2_tCG vf_tCG dcc_tCG cs_CG sr_CG (PySem.W.mg_none_of X G z_super) topS tpA su_tCG ty_RStold fi_RStold ((ok_Reason_told (fun_mk (st := s_Reason_told) l_RStold c_RStold k_RStold) T).raw0 ((fun_mk (st := s_Reason_told) l_RStold c_RStold k_RStold).binds (ps := ["self"]) fun _ _ _ _ _ _ us hl => match us, hl with | [_], _ => rfl)) TR⟩
  have q_eqRS : EqR l.prog w K mg base 1 RS (spEqT K RS JC SC CG 0) := ⟨f_RSeq, ⟨a_RSeq, i_RSeq⟩, ⟨ne_RS, ob_RS⟩, (ok_eqRS (fun_mk (st := s_Reason_eq) l_RSeq c_RSeq k_RSeq) T TRs).raw0 ((fun_mk (st := s_Reason_eq) l_RSeq c_RSeq k_RSeq).binds (ps := ["self", "other"]) fun _ _ _ _ _ _ us hl => match us, hl with | [_, _], _ => rfl)⟩
  have q_eqJC : EqR l.prog w K mg base 1 JC (spEqT K RS JC SC CG 1) := ⟨f_JCeq, ⟨a_JCeq, i_JCeq⟩, ⟨ne_JC, ob_JC⟩, (ok_eqJC (fun_mk (st := s_JointCount_eq) l_JCeq c_JCeq k_JCeq) T TRs TR TR2).raw0 ((fun_mk (st := s_JointCount_eq) l_JCeq c_JCeq k_JCeq).binds (ps := ["self", "other"]) fun _ _ _ _ _ _ us hl => match us, hl with | [_, _], _ => rfl)⟩
  have q_eqSC : EqR l.prog w K mg base 1 SC (spEqT K RS JC SC CG 2) := ⟨f_SCeq, ⟨a_SCeq, i_SCeq⟩, ⟨ne_SC, ob_SC⟩, (ok_eqSC (fun_mk (st := s_StickCount_eq) l_SCeq c_SCeq k_SCeq) T TRs TR TR2).raw0 ((fun_mk (st := s_StickCount_eq) l_SCeq c_SCeq k_SCeq).binds (ps := ["self", "other"]) fun _ _ _ _ _ _ us hl => match us, hl with | [_, _], _ => rfl)⟩
  have q_eqCG : EqR l.prog w K mg base 1 CG (spEqT K RS JC SC CG 3) := ⟨f_CGeq, ⟨a_CGeq, i_CGeq⟩, ⟨ne_CG, ob_CG⟩, (ok_eqCG (fun_mk (st := s_Congruence_eq) l_CGeq c_CGeq k_CGeq) T TRs TR TR2).raw0 ((fun_mk (st := s_Congruence_eq) l_CGeq c_CGeq k_CGeq).binds (ps := ["self", "other"]) fun _ _ _ _ _ _ us hl => match us, hl with | [_, _], _ => rfl)⟩
  exact ok_law (fun_mk (st := s_law) l_law c_law k_law) T TRs TR TR2 q__law_source q__law_draw q__law_drawn q__law_rearranged q__law_made q__law_some_reasons q__law_due q__law_text q__law_key q_hold0 q_holdJ q_holdS q_holdC q_told0 q_toldJC q_toldSC q_toldCG q_eqRS q_eqJC q_eqSC q_eqCG
theorem walk {l : PySem.W.OpenLaw} {q : Program} {loose : List Str} {XP : (Str → Option Value) → Heap → Prop} {YP : World → Heap → Prop} {d : DefRec} {K : Params → PySem.W.Frag} (hn : l.most = some 63) (hdf : d.params.defaults = [])
    (hY : ∀ (w : World) (h : Heap), YP w h → (K w.params).In h)
    (F : ∀ (w : World) (mg : Str → Option Value) (fa : Addr) (h : Heap), (K w.params).In h → h.Ns mainGlobals mg → mg d.name = some (.ref fa) → ∀ base : Heap, (K w.params).In base → base.Ns mainGlobals mg → FnG l.prog w (K w.params) mg base CX0 11 fa (spLaw (K w.params))) :
    PySem.W.WalkO q loose XP YP l.row.toRowW d [] (fun f vs => PySem.call f vs) :=
  top_walk (n := 63) (k := 11) (CX := fun _ => CX0) (sp := fun w => spLaw (K w.params)) hn (by decide) hdf ⟨rfl, by decide, by decide⟩ hY F (fun _ H a ns hl hS => ⟨ns, fun _ => none, H, fun _ => none, [.frl (ns.map Dt.int)], ⟨(fun a o e => nomatch e), (fun a o e => nomatch e), Ex.refl H, (fun a c e => nomatch e)⟩, .one (.frl hS RpAll.ofInts), ⟨rfl, hl⟩, fun v d M' H' H2 hp k e r => by
    have hp' : d = .bl true := hp
    rw [hp'] at r
    exact r.bl_inv⟩) fun _ _ _ _ _ z => z
end Wk
namespace Hd
open PySem L2 Wk
theorem facts {w : World} {K : PySem.W.Frag} {h : Heap} {mg : Str → Option Value} {fa : Addr} (c : Says okAll fds K) (X : K.In h) (G : h.Ns mainGlobals mg) (hfa : mg "law" = some (.ref fa)) :
    ∀ base : Heap, K.In base → base.Ns mainGlobals mg → FnG (PySem.Challenge.rw_walkagon_k09_reasons_checked).prog w K mg base CX0 11 fa (spLaw K) := by
  have b := c.ok
  obtain ⟨g0, b⟩ := ba b
  obtain ⟨b0, g0⟩ := ba g0
  obtain ⟨a_P, pg_P, hd_P, po_P, sa_P, mk_P, kc_P, nP_P, ne_P, ob_P, ha_P, rd_P, ga_P, hn, htk, B_most, least, z_len, z_max, z_min, z_range, z_enumerate, z_zip, z_list⟩ : F0 K := of_decide_eq_true b0
  obtain ⟨b1, g0⟩ := ba g0
  obtain ⟨z_tuple, z_int, z_str, z_sum, z_isinstance, z_any, z_repr, z_set, z_abs, z_all, z_sorted, a_RS, pg_RS, hd_RS, po_RS, sa_RS, mk_RS, kc_RS, nP_RS, ne_RS, ob_RS, ha_RS, rd_RS, ga_RS⟩ : F1 K := of_decide_eq_true b1
  obtain ⟨b2, g0⟩ := ba g0
  obtain ⟨a_SC, pg_SC, hd_SC, po_SC, sa_SC, mk_SC, kc_SC, nP_SC, ne_SC, ob_SC, ha_SC, rd_SC, ga_SC, a_CG, pg_CG, hd_CG, po_CG, sa_CG, mk_CG, kc_CG, nP_CG, ne_CG, ob_CG, ha_CG⟩ : F2 K := of_decide_eq_true b2
  obtain ⟨b3, g0⟩ := ba g0
  obtain ⟨rd_CG, ga_CG, a_JC, pg_JC, hd_JC, po_JC, sa_JC, mk_JC, kc_JC, nP_JC, ne_JC, ob_JC, ha_JC, rd_JC, ga_JC, nb_CG, nm_CG, ini_JC, ini_RS, z_type, z_super, tpA, ic_RS, t_RS⟩ : F3 K := of_decide_eq_true b3
  obtain ⟨b4, g0⟩ := ba g0
  obtain ⟨B_cs_RS, ss_RS, ts_RS, ic_JC, t_JC, B_cs_JC, ss_JC, ts_JC, ic_SC, t_SC, B_cs_SC, ss_SC, ts_SC, ic_CG, t_CG, B_cs_CG, ss_CG, ts_CG, s_JC, nq_JC, sr_JC, s_SC, nq_SC, sr_SC⟩ : F4 K := of_decide_eq_true b4
  have b5 := g0
  obtain ⟨s_CG, nq_CG, sr_CG, n_RS_JC, n_RS_SC, n_RS_CG, n_JC_SC, n_JC_CG, n_SC_JC, n_SC_CG, n_CG_JC, n_CG_SC, nn_CG, a__law_source, B_l__law_source, k__law_source, a__law_draw, B_l__law_draw, k__law_draw, a__law_closed, B_l__law_closed, k__law_closed, a__law_drawn, B_l__law_drawn⟩ : F5 K := of_decide_eq_true b5
  obtain ⟨g1, b⟩ := ba b
  obtain ⟨b6, g1⟩ := ba g1
  obtain ⟨k__law_drawn, a__law_sticks, B_l__law_sticks, k__law_sticks, a__law_shuffled, B_l__law_shuffled, k__law_shuffled, a__law_rearranged, B_l__law_rearranged, k__law_rearranged, a_is_count, B_l_is_count, k_is_count, a_is_number, B_l_is_number, k_is_number, a_read_points, B_l_read_points, k_read_points, a_check_pairs, B_l_check_pairs, k_check_pairs, a_Pinit, i_Pinit⟩ : F6 K := of_decide_eq_true b6
  obtain ⟨b7, g1⟩ := ba g1
  obtain ⟨B_l_Pinit, k_Pinit, B_a_Pparse, r1_Pparse, i_Pparse, B_l_Pparse, k_Pparse, a__law_made, B_l__law_made, k__law_made, a_Plen, i_Plen, B_l_Plen, k_Plen, a_minus, B_l_minus, k_minus, a_sides_of, B_l_sides_of, k_sides_of, a_Psticks, g_Psticks, t_Psticks, r1_Psticks⟩ : F7 K := of_decide_eq_true b7
  obtain ⟨b8, g1⟩ := ba g1
  obtain ⟨B_l_Psticks, k_Psticks, a_SCinit, i_SCinit, B_l_SCinit, k_SCinit, a_SCholds, i_SCholds, B_l_SCholds, k_SCholds, a_differences, B_l_differences, k_differences, a_CGvanishes, i_CGvanishes, B_l_CGvanishes, k_CGvanishes, a_CGholds, i_CGholds, B_l_CGholds, k_CGholds, a_mixed, B_l_mixed, k_mixed⟩ : F8 K := of_decide_eq_true b8
  obtain ⟨b9, g1⟩ := ba g1
  obtain ⟨a_cleared, B_l_cleared, k_cleared, a_basis, B_l_basis, k_basis, a_CGinit, i_CGinit, B_l_CGinit, k_CGinit, a_congruences, B_l_congruences, k_congruences, a_reason_against, B_l_reason_against, k_reason_against, a__law_some_reasons, B_l__law_some_reasons, k__law_some_reasons, a__law_due, B_l__law_due, k__law_due, a__law_text, B_l__law_text⟩ : F9 K := of_decide_eq_true b9
  obtain ⟨b10, g1⟩ := ba g1
  obtain ⟨k__law_text, a__law_key, B_l__law_key, k__law_key, a_RSholds, i_RSholds, B_l_RSholds, k_RSholds, a_JCholds, i_JCholds, B_l_JCholds, k_JCholds, a_RStold, i_RStold, B_l_RStold, k_RStold, a_tJC, i_tJC, k_tJC, B_l_tJC, D_l_tJC, B_dcda_tJC, B_dcc_tJC, su_tJC⟩ : F10 K := of_decide_eq_true b10
  have b11 := g1
  obtain ⟨ty_RStold, fi_RStold, a_tSC, i_tSC, k_tSC, B_l_tSC, D_l_tSC, B_dcda_tSC, B_dcc_tSC, su_tSC, a_tCG, i_tCG, k_tCG, B_l_tCG, D_l_tCG, B_dcda_tCG, B_dcc_tCG, su_tCG, a_RSeq, i_RSeq, B_l_RSeq, k_RSeq, a_JCeq, i_JCeq⟩ : F11 K := of_decide_eq_true b11
  have g2 := b
  have b12 := g2
  obtain ⟨B_l_JCeq, k_JCeq, a_SCeq, i_SCeq, B_l_SCeq, k_SCeq, a_CGeq, i_CGeq, B_l_CGeq, k_CGeq, a_law, B_l_law, k_law, vf_tJC, vf_tSC, vf_tCG⟩ : F12 K := of_decide_eq_true b12
  have most := val_at B_most
  obtain ⟨_, cs_RS⟩ := cls_at B_cs_RS
  obtain ⟨_, cs_JC⟩ := cls_at B_cs_JC
  obtain ⟨_, cs_SC⟩ := cls_at B_cs_SC
  obtain ⟨_, cs_CG⟩ := cls_at B_cs_CG
  obtain ⟨_, _, _, _, _, _, _, l__law_source, c__law_source⟩ := fn_at (K := K) (a := He.ga K "_law_source") (st := s__law_source) (c.fn 0 (d := d_0) rfl) B_l__law_source
  obtain ⟨_, _, _, _, _, _, _, l__law_draw, c__law_draw⟩ := fn_at (K := K) (a := He.ga K "_law_draw") (st := s__law_draw) (c.fn 1 (d := d_1) rfl) B_l__law_draw
  obtain ⟨_, _, _, _, _, _, _, l__law_closed, c__law_closed⟩ := fn_at (K := K) (a := He.ga K "_law_closed") (st := s__law_closed) (c.fn 2 (d := d_2) rfl) B_l__law_closed
  obtain ⟨_, _, _, _, _, _, _, l__law_drawn, c__law_drawn⟩ := fn_at (K := K) (a := He.ga K "_law_drawn") (st := s__law_drawn) (c.fn 3 (d := d_3) rfl) B_l__law_drawn
  obtain ⟨_, _, _, _, _, _, _, l__law_sticks, c__law_sticks⟩ := fn_at (K := K) (a := He.ga K "_law_sticks") (st := s__law_sticks) (c.fn 4 (d := d_4) rfl) B_l__law_sticks
  obtain ⟨_, _, _, _, _, _, _, l__law_shuffled, c__law_shuffled⟩ := fn_at (K := K) (a := He.ga K "_law_shuffled") (st := s__law_shuffled) (c.fn 5 (d := d_5) rfl) B_l__law_shuffled
  obtain ⟨_, _, _, _, _, _, _, l__law_rearranged, c__law_rearranged⟩ := fn_at (K := K) (a := He.ga K "_law_rearranged") (st := s__law_rearranged) (c.fn 6 (d := d_6) rfl) B_l__law_rearranged
  obtain ⟨_, _, _, _, _, _, _, l_is_count, c_is_count⟩ := fn_at (K := K) (a := He.ga K "is_count") (st := s_is_count) (c.fn 7 (d := d_7) rfl) B_l_is_count
  obtain ⟨_, _, _, _, _, _, _, l_is_number, c_is_number⟩ := fn_at (K := K) (a := He.ga K "is_number") (st := s_is_number) (c.fn 8 (d := d_8) rfl) B_l_is_number
  obtain ⟨_, _, _, _, _, _, _, l_read_points, c_read_points⟩ := fn_at (K := K) (a := He.ga K "read_points") (st := s_read_points) (c.fn 9 (d := d_9) rfl) B_l_read_points
  obtain ⟨_, _, _, _, _, _, _, l_check_pairs, c_check_pairs⟩ := fn_at (K := K) (a := He.ga K "check_pairs") (st := s_check_pairs) (c.fn 10 (d := d_10) rfl) B_l_check_pairs
  obtain ⟨_, _, _, _, _, _, _, l_Pinit, c_Pinit⟩ := fn_at (K := K) (a := He.ma K (He.ga K "Polygon") "__init__") (st := s_Polygon_init) (c.fn 11 (d := d_11) rfl) B_l_Pinit
  have a_Pparse := get_at B_a_Pparse
  obtain ⟨_, _, _, _, _, _, _, l_Pparse, c_Pparse⟩ := fn_at (K := K) (a := ra K (pa K (He.ga K "Polygon") "parse") "classmethod") (st := s_Polygon_parse) (c.fn 12 (d := d_12) rfl) B_l_Pparse
  obtain ⟨_, _, _, _, _, _, _, l__law_made, c__law_made⟩ := fn_at (K := K) (a := He.ga K "_law_made") (st := s__law_made) (c.fn 13 (d := d_13) rfl) B_l__law_made
  obtain ⟨_, _, _, _, _, _, _, l_Plen, c_Plen⟩ := fn_at (K := K) (a := He.ma K (He.ga K "Polygon") "__len__") (st := s_Polygon_len) (c.fn 14 (d := d_14) rfl) B_l_Plen
  obtain ⟨_, _, _, _, _, _, _, l_minus, c_minus⟩ := fn_at (K := K) (a := He.ga K "minus") (st := s_minus) (c.fn 15 (d := d_15) rfl) B_l_minus
  obtain ⟨_, _, _, _, _, _, _, l_sides_of, c_sides_of⟩ := fn_at (K := K) (a := He.ga K "sides_of") (st := s_sides_of) (c.fn 16 (d := d_16) rfl) B_l_sides_of
  obtain ⟨_, _, _, _, _, _, _, l_Psticks, c_Psticks⟩ := fn_at (K := K) (a := ra K (He.ma K (He.ga K "Polygon") "sticks") "property") (st := s_Polygon_sticks) (c.fn 17 (d := d_17) rfl) B_l_Psticks
  obtain ⟨_, _, _, _, _, _, _, l_SCinit, c_SCinit⟩ := fn_at (K := K) (a := He.ma K (He.ga K "StickCount") "__init__") (st := s_StickCount_init) (c.fn 18 (d := d_18) rfl) B_l_SCinit
  obtain ⟨_, _, _, _, _, _, _, l_SCholds, c_SCholds⟩ := fn_at (K := K) (a := He.ma K (He.ga K "StickCount") "holds") (st := s_StickCount_holds) (c.fn 19 (d := d_19) rfl) B_l_SCholds
  obtain ⟨_, _, _, _, _, _, _, l_differences, c_differences⟩ := fn_at (K := K) (a := He.ga K "differences") (st := s_differences) (c.fn 20 (d := d_20) rfl) B_l_differences
  obtain ⟨_, _, _, _, _, _, _, l_CGvanishes, c_CGvanishes⟩ := fn_at (K := K) (a := He.ma K (He.ga K "Congruence") "_vanishes") (st := s_Congruencevanishes) (c.fn 21 (d := d_21) rfl) B_l_CGvanishes
  obtain ⟨_, _, _, _, _, _, _, l_CGholds, c_CGholds⟩ := fn_at (K := K) (a := He.ma K (He.ga K "Congruence") "holds") (st := s_Congruence_holds) (c.fn 22 (d := d_22) rfl) B_l_CGholds
  obtain ⟨_, _, _, _, _, _, _, l_mixed, c_mixed⟩ := fn_at (K := K) (a := He.ga K "mixed") (st := s_mixed) (c.fn 23 (d := d_23) rfl) B_l_mixed
  obtain ⟨_, _, _, _, _, _, _, l_cleared, c_cleared⟩ := fn_at (K := K) (a := He.ga K "cleared") (st := s_cleared) (c.fn 24 (d := d_24) rfl) B_l_cleared
  obtain ⟨_, _, _, _, _, _, _, l_basis, c_basis⟩ := fn_at (K := K) (a := He.ga K "basis") (st := s_basis) (c.fn 25 (d := d_25) rfl) B_l_basis
  obtain ⟨_, _, _, _, _, _, _, l_CGinit, c_CGinit⟩ := fn_at (K := K) (a := He.ma K (He.ga K "Congruence") "__init__") (st := s_Congruence_init) (c.fn 26 (d := d_26) rfl) B_l_CGinit
  obtain ⟨_, _, _, _, _, _, _, l_congruences, c_congruences⟩ := fn_at (K := K) (a := He.ga K "congruences") (st := s_congruences) (c.fn 27 (d := d_27) rfl) B_l_congruences
  obtain ⟨_, _, _, _, _, _, _, l_reason_against, c_reason_against⟩ := fn_at (K := K) (a := He.ga K "reason_against") (st := s_reason_against) (c.fn 28 (d := d_28) rfl) B_l_reason_against
  obtain ⟨_, _, _, _, _, _, _, l__law_some_reasons, c__law_some_reasons⟩ := fn_at (K := K) (a := He.ga K "_law_some_reasons") (st := s__law_some_reasons) (c.fn 29 (d := d_29) rfl) B_l__law_some_reasons
  obtain ⟨_, _, _, _, _, _, _, l__law_due, c__law_due⟩ := fn_at (K := K) (a := He.ga K "_law_due") (st := s__law_due) (c.fn 30 (d := d_30) rfl) B_l__law_due
  obtain ⟨_, _, _, _, _, _, _, l__law_text, c__law_text⟩ := fn_at (K := K) (a := He.ga K "_law_text") (st := s__law_text) (c.fn 31 (d := d_31) rfl) B_l__law_text
  obtain ⟨_, _, _, _, _, _, _, l__law_key, c__law_key⟩ := fn_at (K := K) (a := He.ga K "_law_key") (st := s__law_key) (c.fn 32 (d := d_32) rfl) B_l__law_key
  obtain ⟨_, _, _, _, _, _, _, l_RSholds, c_RSholds⟩ := fn_at (K := K) (a := He.ma K (He.ga K "Reason") "holds") (st := s_Reason_holds) (c.fn 33 (d := d_33) rfl) B_l_RSholds
  obtain ⟨_, _, _, _, _, _, _, l_JCholds, c_JCholds⟩ := fn_at (K := K) (a := He.ma K (He.ga K "JointCount") "holds") (st := s_JointCount_holds) (c.fn 34 (d := d_34) rfl) B_l_JCholds
  obtain ⟨_, _, _, _, _, _, _, l_RStold, c_RStold⟩ := fn_at (K := K) (a := He.ma K (He.ga K "Reason") "told") (st := s_Reason_told) (c.fn 35 (d := d_35) rfl) B_l_RStold
  obtain ⟨_, _, _, _, _, _, _, l_tJC, co_tJC⟩ := fn_at (K := K) (a := He.ma K (He.ga K "JointCount") "told") (st := si_told_JC) (c.fn 36 (d := d_36) rfl) B_l_tJC
  rw [D_l_tJC] at l_tJC co_tJC
  obtain ⟨_, _, _, _, _, dcda_tJC, v2_tJC⟩ := fld_at B_dcda_tJC
  obtain ⟨_, _, _, dcc_tJC⟩ := cel_at B_dcc_tJC
  obtain ⟨_, _, _, _, _, _, _, l_tSC, co_tSC⟩ := fn_at (K := K) (a := He.ma K (He.ga K "StickCount") "told") (st := si_told_SC) (c.fn 37 (d := d_37) rfl) B_l_tSC
  rw [D_l_tSC] at l_tSC co_tSC
  obtain ⟨_, _, _, _, _, dcda_tSC, v2_tSC⟩ := fld_at B_dcda_tSC
  obtain ⟨_, _, _, dcc_tSC⟩ := cel_at B_dcc_tSC
  obtain ⟨_, _, _, _, _, _, _, l_tCG, co_tCG⟩ := fn_at (K := K) (a := He.ma K (He.ga K "Congruence") "told") (st := si_told_CG) (c.fn 38 (d := d_38) rfl) B_l_tCG
  rw [D_l_tCG] at l_tCG co_tCG
  obtain ⟨_, _, _, _, _, dcda_tCG, v2_tCG⟩ := fld_at B_dcda_tCG
  obtain ⟨_, _, _, dcc_tCG⟩ := cel_at B_dcc_tCG
  obtain ⟨_, _, _, _, _, _, _, l_RSeq, c_RSeq⟩ := fn_at (K := K) (a := He.ma K (He.ga K "Reason") "__eq__") (st := s_Reason_eq) (c.fn 39 (d := d_39) rfl) B_l_RSeq
  obtain ⟨_, _, _, _, _, _, _, l_JCeq, c_JCeq⟩ := fn_at (K := K) (a := He.ma K (He.ga K "JointCount") "__eq__") (st := s_JointCount_eq) (c.fn 40 (d := d_40) rfl) B_l_JCeq
  obtain ⟨_, _, _, _, _, _, _, l_SCeq, c_SCeq⟩ := fn_at (K := K) (a := He.ma K (He.ga K "StickCount") "__eq__") (st := s_StickCount_eq) (c.fn 41 (d := d_41) rfl) B_l_SCeq
  obtain ⟨_, _, _, _, _, _, _, l_CGeq, c_CGeq⟩ := fn_at (K := K) (a := He.ma K (He.ga K "Congruence") "__eq__") (st := s_Congruence_eq) (c.fn 42 (d := d_42) rfl) B_l_CGeq
  obtain ⟨_, _, _, _, _, _, _, l_law, c_law⟩ := fn_at (K := K) (a := He.ga K "law") (st := s_law) (c.fn 43 (d := d_43) rfl) B_l_law
  have topS : (R.prog.main.scope.names.lookup ("super" : Str)).isSome = false := by kernel_rfl
  exact Wk.all_mk (l := PySem.Challenge.rw_walkagon_k09_reasons_checked) X G hfa a_P pg_P hd_P po_P sa_P mk_P kc_P nP_P ne_P ob_P ha_P rd_P ga_P hn htk most least z_len z_max z_min z_range z_enumerate z_zip z_list z_tuple z_int z_str z_sum z_isinstance z_any z_repr z_set z_abs z_all z_sorted a_RS pg_RS hd_RS po_RS sa_RS mk_RS kc_RS nP_RS ne_RS ob_RS ha_RS rd_RS ga_RS a_SC pg_SC hd_SC po_SC sa_SC mk_SC kc_SC nP_SC ne_SC ob_SC ha_SC rd_SC ga_SC a_CG pg_CG hd_CG po_CG sa_CG mk_CG kc_CG nP_CG ne_CG ob_CG ha_CG rd_CG ga_CG a_JC pg_JC hd_JC po_JC sa_JC mk_JC kc_JC nP_JC ne_JC ob_JC ha_JC rd_JC ga_JC nb_CG nm_CG ini_JC ini_RS z_type z_super tpA ic_RS t_RS cs_RS ss_RS ts_RS ic_JC t_JC cs_JC ss_JC ts_JC ic_SC t_SC cs_SC ss_SC ts_SC ic_CG t_CG cs_CG ss_CG ts_CG s_JC nq_JC sr_JC s_SC nq_SC sr_SC s_CG nq_CG sr_CG n_RS_JC n_RS_SC n_RS_CG n_JC_SC n_JC_CG n_SC_JC n_SC_CG n_CG_JC n_CG_SC nn_CG a__law_source l__law_source c__law_source k__law_source a__law_draw l__law_draw c__law_draw k__law_draw a__law_closed l__law_closed c__law_closed k__law_closed a__law_drawn l__law_drawn c__law_drawn k__law_drawn a__law_sticks l__law_sticks c__law_sticks k__law_sticks a__law_shuffled l__law_shuffled c__law_shuffled k__law_shuffled a__law_rearranged l__law_rearranged c__law_rearranged k__law_rearranged a_is_count l_is_count c_is_count k_is_count a_is_number l_is_number c_is_number k_is_number a_read_points l_read_points c_read_points k_read_points a_check_pairs l_check_pairs c_check_pairs k_check_pairs a_Pinit i_Pinit l_Pinit c_Pinit k_Pinit a_Pparse r1_Pparse i_Pparse l_Pparse c_Pparse k_Pparse a__law_made l__law_made c__law_made k__law_made a_Plen i_Plen l_Plen c_Plen k_Plen a_minus l_minus c_minus k_minus a_sides_of l_sides_of c_sides_of k_sides_of a_Psticks g_Psticks t_Psticks r1_Psticks l_Psticks c_Psticks k_Psticks a_SCinit i_SCinit l_SCinit c_SCinit k_SCinit a_SCholds i_SCholds l_SCholds c_SCholds k_SCholds a_differences l_differences c_differences k_differences a_CGvanishes i_CGvanishes l_CGvanishes c_CGvanishes k_CGvanishes a_CGholds i_CGholds l_CGholds c_CGholds k_CGholds a_mixed l_mixed c_mixed k_mixed a_cleared l_cleared c_cleared k_cleared a_basis l_basis c_basis k_basis a_CGinit i_CGinit l_CGinit c_CGinit k_CGinit a_congruences l_congruences c_congruences k_congruences a_reason_against l_reason_against c_reason_against k_reason_against a__law_some_reasons l__law_some_reasons c__law_some_reasons k__law_some_reasons a__law_due l__law_due c__law_due k__law_due a__law_text l__law_text c__law_text k__law_text a__law_key l__law_key c__law_key k__law_key a_RSholds i_RSholds l_RSholds c_RSholds k_RSholds a_JCholds i_JCholds l_JCholds c_JCholds k_JCholds a_RStold i_RStold l_RStold c_RStold k_RStold a_tJC i_tJC k_tJC l_tJC co_tJC dcda_tJC dcc_tJC su_tJC ty_RStold fi_RStold a_tSC i_tSC k_tSC l_tSC co_tSC dcda_tSC dcc_tSC su_tSC a_tCG i_tCG k_tCG l_tCG co_tCG dcda_tCG dcc_tCG su_tCG a_RSeq i_RSeq l_RSeq c_RSeq k_RSeq a_JCeq i_JCeq l_JCeq c_JCeq k_JCeq a_SCeq i_SCeq l_SCeq c_SCeq k_SCeq a_CGeq i_CGeq l_CGeq c_CGeq k_CGeq a_law l_law c_law k_law topS v2_tJC vf_tJC v2_tSC vf_tSC v2_tCG vf_tCG
end Hd
namespace Hd
open PySem L2 Evl Wk
theorem walk {q : Program} {loose : List Str} {XP : (Str → Option Value) → Heap → Prop} {d : DefRec} (hdf : d.params.defaults = []) (hd : d.name = ("law" : Str)) :
    PySem.W.WalkO q loose XP hk.says (PySem.Challenge.rw_walkagon_k09_reasons_checked).row.toRowW d [] (fun f vs => PySem.call f vs) :=
  Wk.top_walkE (l := PySem.Challenge.rw_walkagon_k09_reasons_checked) (n := 63) (k := 11) (CX := CX0) (sp := spLaw) rfl (by decide) hdf ⟨rfl, by decide, by decide⟩ (fun w mg fa h Y G hmg => by
    obtain ⟨K, KX, c⟩ := Y
    rw [hd] at hmg
    exact ⟨K, KX, facts c KX G hmg⟩) (fun _ H a ns hl hS => ⟨ns, fun _ => none, H, fun _ => none, [.frl (ns.map Dt.int)], ⟨(fun a o e => nomatch e), (fun a o e => nomatch e), Ex.refl H, (fun a c e => nomatch e)⟩, .one (.frl hS RpAll.ofInts), ⟨rfl, hl⟩, fun v d M' H' H2 hp k e r => by
    have hp' : d = .bl true := hp
    rw [hp'] at r
    exact r.bl_inv⟩) fun _ _ _ _ z => z
end Hd
open PySem PySem.W PyProof.Rows in
theorem PySem.Challenge.cw_walkagon_k09_reasons_checked_holds : PySem.Challenge.rw_walkagon_k09_reasons_checked.Holds := by
  w_on; o_law
  refine HandSHeadRun.head_any (r := OpenLaw.row PySem.Challenge.rw_walkagon_k09_reasons_checked) (q := Hd.qv) (H := Hd.hk) (ob := Hd.ob) (M := 12000) (loose := Hd.names) (d := HandSHeadRun.topDef (OpenLaw.row PySem.Challenge.rw_walkagon_k09_reasons_checked).prog 45) (kwd := []) Hd.ob_eq
    (by kernel_rfl) (fun s => by kernel_rfl) Hd.run (by kernel_rfl) (by kernel_rfl) (by kernel_rfl) (by rfl) (by first | assumption | decide +kernel) (by decide +kernel) ⟨rfl, rfl, rfl, rfl, rfl, by decide +kernel⟩ ?hw ?hc
  case hw => w_witness2
  case hc => exact Hd.walk (by kernel_rfl) (by kernel_rfl)
#print axioms PySem.Challenge.cw_walkagon_k09_reasons_checked_holds
