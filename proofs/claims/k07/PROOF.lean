import PyProof.Rows.All
import Wide.All
import OpenK.AllK
import Wide.FinOn
import HandS.ForMost
import HandS.Wide
import HandS.Walk
import HandS.Gcd
import HandS.IsInst
import HandS.TupAny
import HandS.Zip
import HandS.TupMul
import HandS.Style
import KE.DataFind
import PySem.Challenge.RW_handlebends_k07_values_of_curves
set_option Elab.async false
set_option linter.all false
set_option maxRecDepth 100000
set_option exponentiation.threshold 20000
/-! AL: an abstract layer over the hand layer: values told by what they are, memory by what may change. -/
namespace AL
open PySem PySem.Spec L2
open PyProof.Rows hiding St
/-- M: the addresses that may change -/
structure Ext (M : List Addr) (H : Hp) (M' : List Addr) (H' : Hp) : Prop where
  old : ∀ a o, a ∉ M → H a = some o → H' a = some o
  new : ∀ a, a ∈ M' → a ∈ M ∨ H a = none
  dom : ∀ a, H' a = none → H a = none
theorem upd_none {H : Hp} {q a : Addr} {o : HO} (h : upd H q o a = none) : H a = none := by
  by_cases e : a = q
  · subst e; rw [upd_same] at h; cases h
  · rw [upd_ne e] at h; exact h
theorem Ext.refl (M : List Addr) (H : Hp) : Ext M H M H := ⟨fun _ _ _ h => h, fun _ h => .inl h, fun _ h => h⟩
theorem Ext.trans {M M1 M2 : List Addr} {H H1 H2 : Hp} (a : Ext M H M1 H1) (b : Ext M1 H1 M2 H2) : Ext M H M2 H2 := by
  refine ⟨fun x o hm e => ?_, fun x hx => ?_, fun x h => a.dom x (b.dom x h)⟩
  · refine b.old x o (fun q => ?_) (a.old x o hm e)
    rcases a.new x q with q | q
    · exact hm q
    · rw [e] at q; cases q
  · rcases b.new x hx with q | q
    · exact a.new x q
    · by_cases hm : x ∈ M
      · exact .inl hm
      · refine .inr ?_
        cases e : H x with
        | none => rfl
        | some o => rw [a.old x o hm e] at q; cases q
/-- a new object -/
theorem Ext.alloc {M : List Addr} {H : Hp} {q : Addr} {o : HO} (h : H q = none) : Ext M H M (upd H q o) :=
  ⟨fun a u _ e => by rw [upd_ne (ne_of_none e h)]; exact e, fun _ h => .inl h, fun _ z => upd_none z⟩
theorem Ext.alloc1 {M : List Addr} {H : Hp} {q : Addr} {o : HO} (h : H q = none) : Ext M H (q :: M) (upd H q o) :=
  ⟨fun a u _ e => by rw [upd_ne (ne_of_none e h)]; exact e, fun a z => by
    rcases List.mem_cons.mp z with rfl | z
    · exact .inr h
    · exact .inl z, fun _ z => upd_none z⟩
/-- a store -/
theorem Ext.store {M : List Addr} {H : Hp} {q : Addr} {o : HO} (h : q ∈ M) : Ext M H M (upd H q o) :=
  ⟨fun a u n e => by rw [upd_ne (fun z => n (by rw [z]; exact h))]; exact e, fun _ h => .inl h, fun _ z => upd_none z⟩
/-- an abstract value -/
structure AV where
  p : PySem.W.Frag → List Addr → Hp → V → Prop
  st : ∀ {K : PySem.W.Frag} {M M' : List Addr} {H H' : Hp} {v : V}, p K M H v → Ext M H M' H' → p K M' H' v
abbrev AllV (K : PySem.W.Frag) (M : List Addr) (H : Hp) : List AV → List V → Prop := Paired fun (A : AV) v => A.p K M H v
theorem AllV.st {K : PySem.W.Frag} {M M' : List Addr} {H H' : Hp} : ∀ {As : List AV} {vs : List V}, AllV K M H As vs → Ext M H M' H' → AllV K M' H' As vs
  | _, _, .nil, _ => .nil
  | A :: _, _, .cons r t, e => .cons (A.st r e) (AllV.st t e)
theorem AllV.length {K : PySem.W.Frag} {M : List Addr} {H : Hp} {As : List AV} {vs : List V} (h : AllV K M H As vs) : As.length = vs.length := Paired.length h
theorem AllV.append {K : PySem.W.Frag} {M : List Addr} {H : Hp} : ∀ {As Bs : List AV} {vs us : List V}, AllV K M H As vs → AllV K M H Bs us → AllV K M H (As ++ Bs) (vs ++ us)
  | _, _, _, _, .nil, s => s
  | _, _, _, _, .cons r t, s => .cons r (AllV.append t s)
theorem AllV.get {K : PySem.W.Frag} {M : List Addr} {H : Hp} : ∀ {As : List AV} {vs : List V} {i : Nat} {A : AV}, AllV K M H As vs → As[i]? = some A → ∃ v, vs[i]? = some v ∧ A.p K M H v
  | _, _, _, _, .nil, e => by simp at e
  | _, _, 0, _, .cons r _, e => by simp at e; subst e; exact ⟨_, rfl, r⟩
  | _, _, i + 1, A, .cons _ t, e => by
    obtain ⟨u, h1, h2⟩ := AllV.get (i := i) (A := A) t (by simpa using e)
    exact ⟨u, by simpa using h1, h2⟩
theorem AllV.getV {K : PySem.W.Frag} {M : List Addr} {H : Hp} : ∀ {As : List AV} {vs : List V} {i : Nat} {v : V}, AllV K M H As vs → vs[i]? = some v → ∃ A, As[i]? = some A ∧ A.p K M H v
  | _, _, _, _, .nil, e => by simp at e
  | _, _, 0, _, .cons r _, e => by simp at e; subst e; exact ⟨_, rfl, r⟩
  | _, _, i + 1, A, .cons _ t, e => by
    obtain ⟨u, h1, h2⟩ := AllV.getV (i := i) (v := A) t (by simpa using e)
    exact ⟨u, by simpa using h1, h2⟩
theorem AllV.drop {K : PySem.W.Frag} {M : List Addr} {H : Hp} : ∀ {As : List AV} {vs : List V} (n : Nat), AllV K M H As vs → AllV K M H (As.drop n) (vs.drop n)
  | _, _, 0, r => r
  | _, _, _ + 1, .nil => .nil
  | _, _, n + 1, .cons _ t => AllV.drop n t
theorem AllV.take {K : PySem.W.Frag} {M : List Addr} {H : Hp} : ∀ {As : List AV} {vs : List V} (n : Nat), AllV K M H As vs → AllV K M H (As.take n) (vs.take n)
  | _, _, 0, _ => .nil
  | _, _, _ + 1, .nil => .nil
  | _, _, n + 1, .cons r t => .cons r (AllV.take n t)
theorem AllV.reverse {K : PySem.W.Frag} {M : List Addr} {H : Hp} : ∀ {As : List AV} {vs : List V}, AllV K M H As vs → AllV K M H As.reverse vs.reverse
  | _, _, .nil => .nil
  | _, _, .cons r t => by
    rw [List.reverse_cons, List.reverse_cons]
    exact (AllV.reverse t).append (.cons r .nil)
theorem AllV.set {K : PySem.W.Frag} {M : List Addr} {H : Hp} {A : AV} {v : V} (r : A.p K M H v) : ∀ {As : List AV} {vs : List V} (i : Nat), AllV K M H As vs → AllV K M H (As.set i A) (vs.set i v)
  | _, _, _, .nil => .nil
  | _, _, 0, .cons _ t => .cons r t
  | _, _, i + 1, .cons q t => .cons q (AllV.set r i t)
/-! ### what values are -/
def KSeq (K : PySem.W.Frag) (cls : String) (a : Addr) (xs : List V) : Prop :=
  match cls with
  | "list" => ∃ (o : Obj) (its : Array Value) (n : Nat), K.lookup a = some o ∧ o.cls = .type "list" ∧ o.dict = none ∧ o.data = .seq its n ∧ its.size ≤ sizeLine ∧ Vals xs its.toList
  | _ => ∃ (o : Obj) (its : Array Value) (n : Nat), K.lookup a = some o ∧ o.cls = .type "tuple" ∧ o.data = .seq its n ∧ its.size ≤ sizeLine ∧ Vals xs its.toList
def ListAt (M : List Addr) (H : Hp) (a : Addr) (xs : List V) : Prop := H a = some (.lst xs) ∧ a ∉ M
def TupAt (K : PySem.W.Frag) (M : List Addr) (H : Hp) (a : Addr) (xs : List V) : Prop := (H a = some (.tup xs) ∧ a ∉ M) ∨ KSeq K "tuple" a xs
theorem Ext.rd {M M' : List Addr} {H H' : Hp} (e : Ext M H M' H') {a : Addr} {u : HO} (h : Rd H a u) (n : a ∉ M) : Rd H' a u ∧ a ∉ M' := by
  have n' : a ∉ M' := fun q => by
    rcases e.new a q with q | q
    · exact n q
    · rcases h with h | ⟨o, h⟩ <;> (rw [h] at q; cases q)
  rcases h with h | ⟨o, h⟩
  · exact ⟨.inl (e.old _ _ n h), n'⟩
  · exact ⟨.inr ⟨o, e.old _ _ n h⟩, n'⟩
theorem ListAt.st {M M' : List Addr} {H H' : Hp} {a : Addr} {xs : List V} (h : ListAt M H a xs) (e : Ext M H M' H') : ListAt M' H' a xs := ⟨e.old _ _ h.2 h.1, (e.rd (.inl h.1) h.2).2⟩
theorem TupAt.st {K : PySem.W.Frag} {M M' : List Addr} {H H' : Hp} {a : Addr} {xs : List V} (h : TupAt K M H a xs) (e : Ext M H M' H') : TupAt K M' H' a xs := by
  rcases h with ⟨h, n⟩ | h
  · exact .inl ⟨e.old _ _ n h, (e.rd (.inl h) n).2⟩
  · exact .inr h
theorem ListAt.sq {K : PySem.W.Frag} {M : List Addr} {H : Hp} {a : Addr} {xs : List V} (h : ListAt M H a xs) : SqL K H a xs := .inl (.inl h.1)
theorem TupAt.sq {K : PySem.W.Frag} {M : List Addr} {H : Hp} {a : Addr} {xs : List V} (h : TupAt K M H a xs) : SqT K H a xs := by
  rcases h with ⟨h, _⟩ | h
  · exact .inl (.inl h)
  · exact .inr h
/-- just this value -/
def val (x : V) : AV := ⟨fun _ _ _ v => v = x, fun h _ => h⟩
abbrev int (n : Int) : AV := val (.int n)
abbrev bool (b : Bool) : AV := val (.bl b)
abbrev str (x : Str) : AV := val (.str x)
abbrev non : AV := val .non
/-- a tuple, a list that nobody changes -/
def tup (As : List AV) : AV := ⟨fun K M H v => ∃ a vs, v = .ref a ∧ TupAt K M H a vs ∧ AllV K M H As vs, fun ⟨a, vs, e, t, r⟩ x => ⟨a, vs, e, t.st x, r.st x⟩⟩
def lst (As : List AV) : AV := ⟨fun K M H v => ∃ a vs, v = .ref a ∧ ListAt M H a vs ∧ AllV K M H As vs, fun ⟨a, vs, e, t, r⟩ x => ⟨a, vs, e, t.st x, r.st x⟩⟩
/-- the script -/
def ScrAt (K : PySem.W.Frag) (M : List Addr) (H : Hp) (a : Addr) (xs : List V) : Prop := (Rd H a (.lst xs) ∧ a ∉ M) ∨ KSeq K "list" a xs
theorem ScrAt.st {K : PySem.W.Frag} {M M' : List Addr} {H H' : Hp} {a : Addr} {xs : List V} (h : ScrAt K M H a xs) (e : Ext M H M' H') : ScrAt K M' H' a xs := by
  rcases h with ⟨h, n⟩ | h
  · exact .inl (e.rd h n)
  · exact .inr h
theorem ScrAt.sq {K : PySem.W.Frag} {M : List Addr} {H : Hp} {a : Addr} {xs : List V} (h : ScrAt K M H a xs) : SqL K H a xs := by
  rcases h with ⟨h, _⟩ | h
  · exact .inl h
  · exact .inr h
def scr (As : List AV) : AV := ⟨fun K M H v => ∃ a vs, v = .ref a ∧ ScrAt K M H a vs ∧ AllV K M H As vs, fun ⟨a, vs, e, t, r⟩ x => ⟨a, vs, e, t.st x, r.st x⟩⟩
/-- an instance that nobody changes -/
abbrev FieldsV (K : PySem.W.Frag) (M : List Addr) (H : Hp) : List (Str × AV) → List (Str × V) → Prop := Paired fun (p : Str × AV) (q : Str × V) => p.1 = q.1 ∧ p.2.p K M H q.2
theorem FieldsV.st {K : PySem.W.Frag} {M M' : List Addr} {H H' : Hp} : ∀ {fs : List (Str × AV)} {vs : List (Str × V)}, FieldsV K M H fs vs → Ext M H M' H' → FieldsV K M' H' fs vs
  | _, _, .nil, _ => .nil
  | A :: _, _, .cons r t, e => .cons ⟨r.1, A.2.st r.2 e⟩ (FieldsV.st t e)
theorem FieldsV.get {K : PySem.W.Frag} {M : List Addr} {H : Hp} : ∀ {fs : List (Str × AV)} {vs : List (Str × V)} {f : Str} {A : AV}, FieldsV K M H fs vs → fs.lookup f = some A → ∃ v, vs.lookup f = some v ∧ A.p K M H v
  | _, _, _, _, .nil, e => by simp at e
  | (g, B) :: fs, (g', v) :: vs, f, A, .cons r t, e => by
    obtain ⟨r1, r2⟩ := r
    simp only at r1 r2
    subst r1
    rw [List.lookup_cons] at e ⊢
    cases q : f == g with
    | true => rw [q] at e; cases e; exact ⟨v, rfl, r2⟩
    | false => rw [q] at e; exact FieldsV.get t e
def ins (C : Addr) (fs : List (Str × AV)) : AV := ⟨fun K M H v => ∃ a dx vs, v = .ref a ∧ H a = some (.ins C dx vs) ∧ a ∉ M ∧ FieldsV K M H fs vs, fun ⟨a, dx, vs, e, t, n, r⟩ x => by
  obtain ⟨t', n'⟩ := x.rd (.inl t) n
  have t2 := x.old _ _ n t
  exact ⟨a, dx, vs, e, t2, n', r.st x⟩⟩
/-! ### the state -/
/-- a thing that may change: a list, an instance -/
inductive Cell where
  | l (As : List AV)
  | i (C : Addr) (fs : List (Str × AV))
def CellO (K : PySem.W.Frag) (M : List Addr) (H : Hp) : Cell → HO → Prop
  | .l As, .lst vs => AllV K M H As vs
  | .i C fs, .ins C' _ vs => C' = C ∧ FieldsV K M H fs vs
  | _, _ => False
theorem CellO.st {K : PySem.W.Frag} {M M' : List Addr} {H H' : Hp} : ∀ {c : Cell} {o : HO}, CellO K M H c o → Ext M H M' H' → CellO K M' H' c o
  | .l _, .lst _, h, e => AllV.st h e
  | .i _ _, .ins _ _ _, h, e => ⟨h.1, FieldsV.st h.2 e⟩
  | .l _, .tup _, h, _ => h.elim
  | .l _, .dK _, h, _ => h.elim
  | .l _, .dT _, h, _ => h.elim
  | .l _, .set _ _, h, _ => h.elim
  | .l _, .ins _ _ _, h, _ => h.elim
  | .l _, .own _, h, _ => h.elim
  | .l _, .xd _, h, _ => h.elim
  | .l _, .met _ _, h, _ => h.elim
  | .l _, .rng _ _, h, _ => h.elim
  | .l _, .frz _ _, h, _ => h.elim
  | .l _, .tbl _, h, _ => h.elim
  | .l _, .ext _, h, _ => h.elim
  | .i _ _, .lst _, h, _ => h.elim
  | .i _ _, .tup _, h, _ => h.elim
  | .i _ _, .dK _, h, _ => h.elim
  | .i _ _, .dT _, h, _ => h.elim
  | .i _ _, .set _ _, h, _ => h.elim
  | .i _ _, .own _, h, _ => h.elim
  | .i _ _, .xd _, h, _ => h.elim
  | .i _ _, .met _ _, h, _ => h.elim
  | .i _ _, .rng _ _, h, _ => h.elim
  | .i _ _, .frz _ _, h, _ => h.elim
  | .i _ _, .tbl _, h, _ => h.elim
  | .i _ _, .ext _, h, _ => h.elim
theorem CellO.lst {K : PySem.W.Frag} {M : List Addr} {H : Hp} {As : List AV} {o : HO} (h : CellO K M H (.l As) o) : ∃ vs, o = .lst vs ∧ AllV K M H As vs := by
  cases o with
  | lst vs => exact ⟨vs, rfl, h⟩
  | _ => exact h.elim
theorem CellO.ins {K : PySem.W.Frag} {M : List Addr} {H : Hp} {C : Addr} {fs : List (Str × AV)} {o : HO} (h : CellO K M H (.i C fs) o) : ∃ dx vs, o = .ins C dx vs ∧ FieldsV K M H fs vs := by
  cases o with
  | ins C' dx vs =>
    obtain ⟨e, r⟩ := h
    subst e
    exact ⟨dx, vs, rfl, r⟩
  | _ => exact h.elim
abbrev Mem := List (Addr × Cell)
abbrev Mem.M (m : Mem) : List Addr := m.map (·.1)
abbrev Rho := List (Option AV)
def SlotV (K : PySem.W.Frag) (M : List Addr) (H : Hp) : Option AV → Option V → Prop
  | none, _ => True
  | some A, some v => A.p K M H v
  | some _, none => False
abbrev EnvV (K : PySem.W.Frag) (M : List Addr) (H : Hp) : Rho → St → Prop := Paired (SlotV K M H)
theorem SlotV.st {K : PySem.W.Frag} {M M' : List Addr} {H H' : Hp} : ∀ {a : Option AV} {v : Option V}, SlotV K M H a v → Ext M H M' H' → SlotV K M' H' a v
  | none, _, _, _ => trivial
  | some A, some _, h, e => A.st h e
  | some _, none, h, _ => h.elim
theorem EnvV.st {K : PySem.W.Frag} {M M' : List Addr} {H H' : Hp} : ∀ {ρ : Rho} {σ : St}, EnvV K M H ρ σ → Ext M H M' H' → EnvV K M' H' ρ σ
  | _, _, .nil, _ => .nil
  | _, _, .cons r t, e => .cons (r.st e) (EnvV.st t e)
theorem EnvV.get {K : PySem.W.Frag} {M : List Addr} {H : Hp} : ∀ {ρ : Rho} {σ : St} {i : Nat} {A : AV}, EnvV K M H ρ σ → ρ[i]? = some (some A) → ∃ v, σ[i]? = some (some v) ∧ A.p K M H v
  | _, _, _, _, .nil, e => by simp at e
  | _, some v :: _, 0, _, .cons r _, e => by simp at e; subst e; exact ⟨v, rfl, r⟩
  | _, none :: _, 0, _, .cons r _, e => by simp at e; subst e; exact r.elim
  | _, _, i + 1, A, .cons _ t, e => by
    obtain ⟨u, h1, h2⟩ := EnvV.get (i := i) (A := A) t (by simpa using e)
    exact ⟨u, by simpa using h1, h2⟩
theorem EnvV.set {K : PySem.W.Frag} {M : List Addr} {H : Hp} {A : AV} {v : V} (r : A.p K M H v) : ∀ {ρ : Rho} {σ : St} (i : Nat), EnvV K M H ρ σ → EnvV K M H (ρ.set i (some A)) (σ.set i (some v))
  | _, _, _, .nil => .nil
  | _, _, 0, .cons _ t => .cons r t
  | _, _, i + 1, .cons q t => .cons q (EnvV.set r i t)
theorem EnvV.forget {K : PySem.W.Frag} {M : List Addr} {H : Hp} {x : Option V} : ∀ {ρ : Rho} {σ : St} (i : Nat), EnvV K M H ρ σ → EnvV K M H (ρ.set i none) (σ.set i x)
  | _, _, _, .nil => .nil
  | _, _, 0, .cons _ t => .cons trivial t
  | _, _, i + 1, .cons q t => .cons q (EnvV.forget i t)
def wipeR (ρ : Rho) : List Nat → Rho
  | [] => ρ
  | v :: vs => (wipeR ρ vs).set v none
theorem EnvV.wipe {K : PySem.W.Frag} {M : List Addr} {H : Hp} {ρ : Rho} {σ : St} (h : EnvV K M H ρ σ) : ∀ vs : List Nat, EnvV K M H (wipeR ρ vs) (wipe σ vs)
  | [] => h
  | v :: vs => (EnvV.wipe h vs).forget v
/-- what others may change, but nobody does here -/
abbrev Frm := List (Addr × HO)
abbrev Ms (fr : Frm) (m : Mem) : List Addr := fr.map (·.1) ++ m.map (·.1)
structure MemV (K : PySem.W.Frag) (fr : Frm) (m : Mem) (H : Hp) : Prop where
  frm : ∀ b o, (b, o) ∈ fr → H b = some o
  at_ : ∀ b c, (b, c) ∈ m → ∃ o, H b = some o ∧ CellO K (Ms fr m) H c o
  nd : (Ms fr m).Nodup
structure Holds (K : PySem.W.Frag) (fr : Frm) (ρ : Rho) (m : Mem) (σ : St) (H : Hp) : Prop where
  env : EnvV K (Ms fr m) H ρ σ
  mem : MemV K fr m H
theorem MemV.has {K : PySem.W.Frag} {fr : Frm} {m : Mem} {H : Hp} (h : MemV K fr m H) {b : Addr} (hb : b ∈ Ms fr m) : ∃ o, H b = some o := by
  rcases List.mem_append.mp hb with z | z
  · obtain ⟨⟨c, o⟩, hc, e⟩ := List.mem_map.mp z
    have e' : c = b := e
    subst e'
    exact ⟨o, h.frm _ _ hc⟩
  · obtain ⟨⟨c, As⟩, hc, e⟩ := List.mem_map.mp z
    have e' : c = b := e
    subst e'
    obtain ⟨vs, e, _⟩ := h.at_ _ _ hc
    exact ⟨_, e⟩
theorem MemV.notin {K : PySem.W.Frag} {fr : Frm} {m : Mem} {H : Hp} {q : Addr} (h : MemV K fr m H) (hq : H q = none) : q ∉ Ms fr m := fun z => by
  obtain ⟨o, e⟩ := h.has z
  rw [hq] at e; cases e
theorem MemV.alloc {K : PySem.W.Frag} {fr : Frm} {m : Mem} {H : Hp} {q : Addr} {o : HO} (h : MemV K fr m H) (hq : H q = none) : MemV K fr m (upd H q o) := by
  refine ⟨fun b u z => ?_, fun b As z => ?_, h.nd⟩
  · have e := h.frm b u z
    rw [upd_ne (ne_of_none e hq)]; exact e
  · obtain ⟨vs, e, r⟩ := h.at_ b As z
    exact ⟨vs, by rw [upd_ne (ne_of_none e hq)]; exact e, r.st (.alloc hq)⟩
theorem Holds.alloc {K : PySem.W.Frag} {fr : Frm} {ρ : Rho} {m : Mem} {σ : St} {H : Hp} {q : Addr} {o : HO} (h : Holds K fr ρ m σ H) (hq : H q = none) : Holds K fr ρ m σ (upd H q o) := ⟨h.env.st (.alloc hq), h.mem.alloc hq⟩
/-- a thing that is made here and is not yet shown goes to the frame -/
theorem Ext.push {fr : Frm} {m : Mem} {H : Hp} {q : Addr} {o u : HO} (h : H q = none) : Ext (Ms fr m) H (Ms ((q, u) :: fr) m) (upd H q o) :=
  ⟨fun a u _ e => by rw [upd_ne (ne_of_none e h)]; exact e, fun a z => by
    rcases List.mem_cons.mp z with rfl | z
    · exact .inr h
    · exact .inl z, fun _ z => upd_none z⟩
theorem Ext.pop {fr : Frm} {m : Mem} {H : Hp} {q : Addr} {u : HO} : Ext (Ms ((q, u) :: fr) m) H (Ms fr m) H := ⟨fun _ _ _ e => e, fun _ z => .inl (List.mem_cons_of_mem _ z), fun _ z => z⟩
theorem MemV.push {K : PySem.W.Frag} {fr : Frm} {m : Mem} {H : Hp} {q : Addr} {o : HO} (h : MemV K fr m H) (hq : H q = none) : MemV K ((q, o) :: fr) m (upd H q o) := by
  refine ⟨fun b u z => ?_, fun b As z => ?_, List.nodup_cons.mpr ⟨h.notin hq, h.nd⟩⟩
  · rcases List.mem_cons.mp z with z | z
    · cases z; exact upd_same
    · have e := h.frm b u z
      rw [upd_ne (ne_of_none e hq)]; exact e
  · obtain ⟨vs, e, r⟩ := h.at_ b As z
    exact ⟨vs, by rw [upd_ne (ne_of_none e hq)]; exact e, r.st (.push hq)⟩
theorem MemV.pop {K : PySem.W.Frag} {fr : Frm} {m : Mem} {H : Hp} {q : Addr} {o : HO} (h : MemV K ((q, o) :: fr) m H) : MemV K fr m H :=
  ⟨fun b u z => h.frm b u (List.mem_cons_of_mem _ z), fun b As z => by obtain ⟨vs, e, r⟩ := h.at_ b As z; exact ⟨vs, e, r.st .pop⟩, (List.nodup_cons.mp h.nd).2⟩
/-- the framed thing at the front is rewritten -/
theorem Ext.re {fr : Frm} {m : Mem} {H : Hp} {q : Addr} {u o : HO} : Ext (Ms ((q, u) :: fr) m) H (Ms ((q, o) :: fr) m) (upd H q o) :=
  ⟨fun a x n e => by rw [upd_ne (fun z => n (by rw [z]; exact List.mem_cons_self))]; exact e, fun _ z => .inl z, fun _ z => upd_none z⟩
theorem MemV.re {K : PySem.W.Frag} {fr : Frm} {m : Mem} {H : Hp} {q : Addr} {u o : HO} (h : MemV K ((q, u) :: fr) m H) : MemV K ((q, o) :: fr) m (upd H q o) := by
  have hn := (List.nodup_cons.mp h.nd).1
  refine ⟨fun b x z => ?_, fun b As z => ?_, h.nd⟩
  · rcases List.mem_cons.mp z with z | z
    · cases z; exact upd_same
    · have e := h.frm b x (List.mem_cons_of_mem _ z)
      rw [upd_ne (fun y => hn (by rw [← y]; exact List.mem_append_left _ (List.mem_map.mpr ⟨_, z, rfl⟩)))]; exact e
  · obtain ⟨vs, e, r⟩ := h.at_ b As z
    refine ⟨vs, ?_, r.st .re⟩
    rw [upd_ne (fun y => hn (by rw [← y]; exact List.mem_append_right _ (List.mem_map.mpr ⟨_, z, rfl⟩)))]; exact e
/-- memory that a callee does not see -/
theorem split_ms {fr g : Frm} {m1 m2 : Mem} (hg : g.map (·.1) = m2.map (·.1)) : ∀ x, x ∈ Ms (g ++ fr) m1 ↔ x ∈ Ms fr (m1 ++ m2) := by
  intro x
  unfold Ms
  rw [List.map_append, List.map_append, hg]
  simp only [List.mem_append]
  constructor
  · rintro ((h | h) | h)
    · exact .inr (.inr h)
    · exact .inl h
    · exact .inr (.inl h)
  · rintro (h | h | h)
    · exact .inl (.inr h)
    · exact .inr h
    · exact .inl (.inl h)
theorem Ext.same {M M' : List Addr} {H : Hp} (h : ∀ x, x ∈ M' → x ∈ M) : Ext M H M' H := ⟨fun _ _ _ e => e, fun x z => .inl (h x z), fun _ z => z⟩
/-- the frame that hides m2 -/
theorem hide {K : PySem.W.Frag} {m2 : Mem} {H : Hp} {Z : List Addr} (h : ∀ b c, (b, c) ∈ m2 → ∃ o, H b = some o ∧ CellO K Z H c o) :
    ∃ g : Frm, g.map (·.1) = m2.map (·.1) ∧ (∀ b o, (b, o) ∈ g → H b = some o) ∧ ∀ (H' : Hp) (Z' : List Addr), (∀ b o, (b, o) ∈ g → H' b = some o) → Ext Z H Z' H' → ∀ b c, (b, c) ∈ m2 → ∃ o, H' b = some o ∧ CellO K Z' H' c o := by
  induction m2 with
  | nil => exact ⟨[], rfl, fun _ _ z => absurd z (by simp), fun _ _ _ _ _ _ z => absurd z (by simp)⟩
  | cons p m2 ih =>
    obtain ⟨c, Cs⟩ := p
    obtain ⟨g, e1, e2, e3⟩ := ih fun b As z => h b As (List.mem_cons_of_mem _ z)
    obtain ⟨vs, hv, r⟩ := h c Cs List.mem_cons_self
    refine ⟨(c, vs) :: g, by simp [e1], fun b o z => ?_, fun H' Z' hg x b As z => ?_⟩
    · rcases List.mem_cons.mp z with z | z
      · cases z; exact hv
      · exact e2 b o z
    · rcases List.mem_cons.mp z with z | z
      · cases z
        exact ⟨vs, hg _ _ List.mem_cons_self, r.st x⟩
      · exact e3 H' Z' (fun b o z => hg b o (List.mem_cons_of_mem _ z)) x b As z
/-- a callee's view and back -/
theorem MemV.call {K : PySem.W.Frag} {fr : Frm} {m1 m2 : Mem} {H : Hp} (h : MemV K fr (m1 ++ m2) H) :
    ∃ g : Frm, g.map (·.1) = m2.map (·.1) ∧ MemV K (g ++ fr) m1 H ∧
      ∀ m1' H', Ext (Ms (g ++ fr) m1) H (Ms (g ++ fr) m1') H' → MemV K (g ++ fr) m1' H' → MemV K fr (m1' ++ m2) H' := by
  obtain ⟨g, e1, e2, e3⟩ := hide (m2 := m2) fun b As z => h.at_ b As (List.mem_append_right _ z)
  have hm := split_ms (fr := fr) (m1 := m1) e1
  refine ⟨g, e1, ⟨fun b o z => ?_, fun b As z => ?_, ?_⟩, fun m1' H' x h' => ⟨fun b o z => h'.frm b o (List.mem_append_right _ z), fun b As z => ?_, ?_⟩⟩
  · rcases List.mem_append.mp z with z | z
    · exact e2 b o z
    · exact h.frm b o z
  · obtain ⟨vs, e, r⟩ := h.at_ b As (List.mem_append_left _ z)
    exact ⟨vs, e, r.st (.same fun x z => (hm x).mp z)⟩
  · have nd := h.nd
    unfold Ms at nd ⊢
    rw [List.map_append] at nd ⊢
    rw [e1]
    have p : (m2.map (·.1) ++ fr.map (·.1) ++ m1.map (·.1)).Perm (fr.map (·.1) ++ (m1.map (·.1) ++ m2.map (·.1))) := by
      rw [List.append_assoc]
      refine (List.perm_append_comm).trans ?_
      rw [List.append_assoc]
    exact p.nodup_iff.mpr nd
  · have hm' := split_ms (fr := fr) (m1 := m1') e1
    rcases List.mem_append.mp z with z | z
    · obtain ⟨vs, e, r⟩ := h'.at_ b As z
      exact ⟨vs, e, r.st (.same fun x z => (hm' x).mpr z)⟩
    · refine e3 H' _ (fun b o z => h'.frm b o (List.mem_append_left _ z)) ?_ b As z
      exact ((Ext.same fun x z => (hm x).mp z).trans x).trans (.same fun x z => (hm' x).mpr z)
  · have nd := h'.nd
    unfold Ms at nd ⊢
    rw [List.map_append] at nd ⊢
    rw [e1] at nd
    have p : (m2.map (·.1) ++ fr.map (·.1) ++ m1'.map (·.1)).Perm (fr.map (·.1) ++ (m1'.map (·.1) ++ m2.map (·.1))) := by
      rw [List.append_assoc]
      refine (List.perm_append_comm).trans ?_
      rw [List.append_assoc]
    exact p.nodup_iff.mp nd
/-! ### judgements -/
def wpE (X : Cx) (e : Expr) : TE := fun σ H Q => ∀ (pins : List (Addr × Obj)) (s : Shared), Inv X pins σ H s → wpAny (model X.prog X.w) X.A (eval e X.env) (EP X pins σ Q) X.xe s
def wpT (X : Cx) (e : Expr) : TT := fun σ H Q => ∀ (pins : List (Addr × Obj)) (s : Shared), Inv X pins σ H s → wpAny (model X.prog X.w) X.A (isTrue e X.env (eval e X.env)) (TP X pins σ Q) X.xe s
def wpW (X : Cx) (e : Expr) : TT := fun σ H Q => ∀ (whole : Sem Value) (pins : List (Addr × Obj)) (s : Shared), Inv X pins σ H s → wpAny (model X.prog X.w) X.A (isTrue e X.env whole) (TP X pins σ Q) X.xe s
def wpA (X : Cx) (es : List Expr) : TA := fun σ H Q => ∀ (pos : Pos) (pins : List (Addr × Obj)) (s : Shared), Inv X pins σ H s → wpAny (model X.prog X.w) X.A (spliced (backTo pos (starEach es X.env))) (AP X pins σ Q) X.xe s
def wpS (X : Cx) (st : Stmt) : TS := fun D σ H => ∀ (pins : List (Addr × Obj)) (s : Shared), Inv X pins σ H s → wpAny (model X.prog X.w) X.A (exec st X.env) (SP X pins D) X.xe s
def wpSs (X : Cx) (sts : List Stmt) : TS := fun D σ H => ∀ (pins : List (Addr × Obj)) (s : Shared), Inv X pins σ H s → wpAny (model X.prog X.w) X.A (execs sts X.env) (SP X pins D) X.xe s
theorem wpE_pe {X : Cx} {e : Expr} : PE X e (wpE X e) := ⟨fun pins s _ _ _ I h => h pins s I⟩
theorem wpT_pt {X : Cx} {e : Expr} : PT X e (wpT X e) := ⟨fun pins s _ _ _ I h => h pins s I⟩
theorem wpW_pw {X : Cx} {e : Expr} : PW X e (wpW X e) := ⟨fun wh pins s _ _ _ I h => h wh pins s I⟩
theorem wpA_pa {X : Cx} {es : List Expr} : PA X es (wpA X es) := ⟨fun pos pins s _ _ _ I h => h pos pins s I⟩
theorem wpS_ps {X : Cx} {st : Stmt} : PS X st (wpS X st) := ⟨fun pins s _ _ _ I h => h pins s I⟩
theorem wpSs_pss {X : Cx} {sts : List Stmt} : PSs X sts (wpSs X sts) := ⟨fun pins s _ _ _ I h => h pins s I⟩
theorem le_E {X : Cx} {e : Expr} {t : TE} (h : PE X e t) {σ : St} {H : Hp} {Q : VK} (q : t σ H Q) : wpE X e σ H Q := fun pins s I => h.run pins s σ H Q I q
theorem le_T {X : Cx} {e : Expr} {t : TT} (h : PT X e t) {σ : St} {H : Hp} {Q : Bool → Hp → Prop} (q : t σ H Q) : wpT X e σ H Q := fun pins s I => h.run pins s σ H Q I q
theorem le_W {X : Cx} {e : Expr} {t : TT} (h : PW X e t) {σ : St} {H : Hp} {Q : Bool → Hp → Prop} (q : t σ H Q) : wpW X e σ H Q := fun wh pins s I => h.run wh pins s σ H Q I q
theorem le_A {X : Cx} {es : List Expr} {t : TA} (h : PA X es t) {σ : St} {H : Hp} {Q : List V → Hp → Prop} (q : t σ H Q) : wpA X es σ H Q := fun pos pins s I => h.run pos pins s σ H Q I q
theorem le_S {X : Cx} {st : Stmt} {t : TS} (h : PS X st t) {σ : St} {H : Hp} {D : Ends} (q : t D σ H) : wpS X st D σ H := fun pins s I => h.run pins s σ H D I q
theorem le_Ss {X : Cx} {sts : List Stmt} {t : TS} (h : PSs X sts t) {σ : St} {H : Hp} {D : Ends} (q : t D σ H) : wpSs X sts D σ H := fun pins s I => h.run pins s σ H D I q
abbrev KA := AV → Mem → Prop
/-- what stands behind: some outcome that is wanted -/
def Got (K : PySem.W.Frag) (fr : Frm) (ρ : Rho) (m : Mem) (σ : St) (H : Hp) (Kt : KA) (Q : VK) : Prop :=
  ∀ A m' v H', Kt A m' → Ext (Ms fr m) H (Ms fr m') H' → Holds K fr ρ m' σ H' → A.p K (Ms fr m') H' v → Q v H'
def WE (X : Cx) (e : Expr) (ρ : Rho) (m : Mem) (Kt : KA) : Prop :=
  ∀ fr σ H, Holds X.K fr ρ m σ H → ∀ Q : VK, Got X.K fr ρ m σ H Kt Q → wpE X e σ H Q
abbrev KT := Bool → Mem → Prop
def GotT (K : PySem.W.Frag) (fr : Frm) (ρ : Rho) (m : Mem) (σ : St) (H : Hp) (Kt : KT) (Q : Bool → Hp → Prop) : Prop :=
  ∀ b m' H', Kt b m' → Ext (Ms fr m) H (Ms fr m') H' → Holds K fr ρ m' σ H' → Q b H'
def WT (X : Cx) (e : Expr) (ρ : Rho) (m : Mem) (Kt : KT) : Prop :=
  ∀ fr σ H, Holds X.K fr ρ m σ H → ∀ Q, GotT X.K fr ρ m σ H Kt Q → wpT X e σ H Q
def WW (X : Cx) (e : Expr) (ρ : Rho) (m : Mem) (Kt : KT) : Prop :=
  ∀ fr σ H, Holds X.K fr ρ m σ H → ∀ Q, GotT X.K fr ρ m σ H Kt Q → wpW X e σ H Q
abbrev KL := List AV → Mem → Prop
def GotL (K : PySem.W.Frag) (fr : Frm) (ρ : Rho) (m : Mem) (σ : St) (H : Hp) (Kt : KL) (Q : List V → Hp → Prop) : Prop :=
  ∀ As m' vs H', Kt As m' → Ext (Ms fr m) H (Ms fr m') H' → Holds K fr ρ m' σ H' → AllV K (Ms fr m') H' As vs → Q vs H'
def WA (X : Cx) (es : List Expr) (ρ : Rho) (m : Mem) (Kt : KL) : Prop :=
  ∀ fr σ H, Holds X.K fr ρ m σ H → ∀ Q, GotL X.K fr ρ m σ H Kt Q → wpA X es σ H Q
/-- what is wanted behind a statement -/
structure EndsA where
  nx : Rho → Mem → Prop
  rt : KA
  bk : Rho → Mem → Prop := fun _ _ => False
  ct : Rho → Mem → Prop := fun _ _ => False
structure GotS (K : PySem.W.Frag) (fr : Frm) (m : Mem) (H : Hp) (E : EndsA) (D : Ends) : Prop where
  nx : ∀ ρ' m' σ' H', E.nx ρ' m' → Ext (Ms fr m) H (Ms fr m') H' → Holds K fr ρ' m' σ' H' → D.nx σ' H'
  rt : ∀ A m' v H', E.rt A m' → Ext (Ms fr m) H (Ms fr m') H' → MemV K fr m' H' → A.p K (Ms fr m') H' v → D.rt v H'
  bk : ∀ ρ' m' σ' H', E.bk ρ' m' → Ext (Ms fr m) H (Ms fr m') H' → Holds K fr ρ' m' σ' H' → D.bk σ' H'
  ct : ∀ ρ' m' σ' H', E.ct ρ' m' → Ext (Ms fr m) H (Ms fr m') H' → Holds K fr ρ' m' σ' H' → D.ct σ' H'
def WS (X : Cx) (st : Stmt) (ρ : Rho) (m : Mem) (E : EndsA) : Prop :=
  ∀ fr σ H, Holds X.K fr ρ m σ H → ∀ D, GotS X.K fr m H E D → wpS X st D σ H
def WSs (X : Cx) (sts : List Stmt) (ρ : Rho) (m : Mem) (E : EndsA) : Prop :=
  ∀ fr σ H, Holds X.K fr ρ m σ H → ∀ D, GotS X.K fr m H E D → wpSs X sts D σ H
theorem Got.from {K : PySem.W.Frag} {fr : Frm} {ρ : Rho} {m m1 : Mem} {σ : St} {H H1 : Hp} {Kt : KA} {Q : VK} (g : Got K fr ρ m σ H Kt Q) (x : Ext (Ms fr m) H (Ms fr m1) H1) : Got K fr ρ m1 σ H1 Kt Q := fun A m' v H' k e h r => g A m' v H' k (x.trans e) h r
theorem GotT.from {K : PySem.W.Frag} {fr : Frm} {ρ : Rho} {m m1 : Mem} {σ : St} {H H1 : Hp} {Kt : KT} {Q : Bool → Hp → Prop} (g : GotT K fr ρ m σ H Kt Q) (x : Ext (Ms fr m) H (Ms fr m1) H1) : GotT K fr ρ m1 σ H1 Kt Q := fun A m' H' k e h => g A m' H' k (x.trans e) h
theorem GotL.from {K : PySem.W.Frag} {fr : Frm} {ρ : Rho} {m m1 : Mem} {σ : St} {H H1 : Hp} {Kt : KL} {Q : List V → Hp → Prop} (g : GotL K fr ρ m σ H Kt Q) (x : Ext (Ms fr m) H (Ms fr m1) H1) : GotL K fr ρ m1 σ H1 Kt Q := fun A m' v H' k e h r => g A m' v H' k (x.trans e) h r
theorem GotS.from {K : PySem.W.Frag} {fr : Frm} {m m1 : Mem} {H H1 : Hp} {E : EndsA} {D : Ends} (g : GotS K fr m H E D) (x : Ext (Ms fr m) H (Ms fr m1) H1) : GotS K fr m1 H1 E D :=
  ⟨fun a b c d k e h => g.nx a b c d k (x.trans e) h, fun a b c d k e h r => g.rt a b c d k (x.trans e) h r, fun a b c d k e h => g.bk a b c d k (x.trans e) h, fun a b c d k e h => g.ct a b c d k (x.trans e) h⟩
/-- one value, then what follows -/
theorem WE.to {X : Cx} {e : Expr} {ρ : Rho} {m : Mem} {Kt : KA} (h : WE X e ρ m Kt) {fr : Frm} {σ : St} {H : Hp} (o : Holds X.K fr ρ m σ H) {Q : VK}
    (k : ∀ A m' v H', Kt A m' → Ext (Ms fr m) H (Ms fr m') H' → Holds X.K fr ρ m' σ H' → A.p X.K (Ms fr m') H' v → Q v H') : wpE X e σ H Q := h fr σ H o Q k
theorem WE.mono {X : Cx} {e : Expr} {ρ : Rho} {m : Mem} {Kt Kt' : KA} (h : WE X e ρ m Kt) (k : ∀ A m', Kt A m' → Kt' A m') : WE X e ρ m Kt' := fun fr σ H o Q g => h fr σ H o Q fun A m' v H' z => g A m' v H' (k A m' z)
/-! ### where one stands -/
structure At (P : Program) (w : World) (K : PySem.W.Frag) (mg : Str → Option Value) (base : Heap) (N : List Str) (sc : Scope) (df : Bool) (k : Nat) (X : Cx) : Prop where
  prog : X.prog = P
  wd : X.w = w
  kt : X.K = K
  mt : X.mg = mg
  bas : X.base = base
  nm : X.N = N
  sce : X.env.scope = sc
  calm : X.calm = true
  room : Room k X.A
  nd : N.Nodup
  fnc : df = true → ∀ x, X.fn x = true
  pso : PassesOwn (model X.prog X.w) X.A X.env X.xe
section
variable {P : Program} {w : World} {K : PySem.W.Frag} {mg : Str → Option Value} {base : Heap} {N : List Str} {sc : Scope} {df : Bool} {k : Nat} {X : Cx} (a : At P w K mg base N sc df k X)
variable {ρ : Rho} {m : Mem} {Kt : KA} {pos : Pos}
/-! ### names and constants -/
theorem we_leaf {e : Expr} {A : AV} {v : V} (h : PE X e (tC v)) (r : ∀ M H, A.p X.K M H v) (q : Kt A m) : WE X e ρ m Kt :=
  fun fr σ H o Q g => le_E h (g A m v H q (.refl _ _) o (r _ _))
theorem we_int {i : Int} {j} (q : Kt (int i) m) : WE X (.Constant (.int i) j pos) ρ m Kt := we_leaf pe_int (fun _ _ => rfl) q
theorem we_bool {i : Bool} {j} (q : Kt (bool i) m) : WE X (.Constant (.bool i) j pos) ρ m Kt := we_leaf pe_bl (fun _ _ => rfl) q
theorem we_none {j} (q : Kt non m) : WE X (.Constant .none j pos) ρ m Kt := we_leaf pe_non (fun _ _ => rfl) q
theorem we_str {x : Str} {j} (q : Kt (str x) m) : WE X (.Constant (.str x) j pos) ρ m Kt := we_leaf pe_str (fun _ _ => rfl) q
include a in
theorem we_name (i : Nat) {x : Str} {A : AV} (hN : N[i]? = some x) (hv : sc.names.lookup x = some .local ∨ sc.names.lookup x = some .cell ∨ sc.names.lookup x = some .free) (hA : ρ[i]? = some (some A)) (q : Kt A m)
    (hd : (x == ("__debug__" : Str)) = false := by decide) (hcd : (x == ("__classdict__" : Str)) = false := by decide) : WE X (.Name x pos) ρ m Kt := by
  intro fr σ H o Q g
  obtain ⟨v, e, r⟩ := o.env.get hA
  refine le_E (pe_var (i := i) (by rw [a.nm]; exact hN) (by unfold Vis; rw [a.sce]; exact hv) hd hcd) ⟨v, e, g A m v H q (.refl _ _) o r⟩
theorem gl_of (a : At P w K mg base N sc df k X) {x : Str} (h : sc.names.lookup x = some .globalImplicit) : Gl X x := by
  unfold Gl
  show X.env.scope.names.lookup x = _
  rw [a.sce]; exact h
include a in
/-- a module's constant -/
theorem we_glob {x : Str} {v : V} {u : Value} {A : AV} (hg : sc.names.lookup x = some .globalImplicit) (hm : mg x = some u) (r : RelV v u) (hA : ∀ M H, A.p K M H v) (q : Kt A m) (hd : (x == ("__debug__" : Str)) = false := by decide) : WE X (.Name x pos) ρ m Kt :=
  we_leaf (pe_glob (gl_of a hg) (by rw [a.mt]; exact hm) r hd) (by rw [a.kt]; exact hA) q
include a in
theorem we_bltn {x : Str} {v : V} {u : Value} (hg : sc.names.lookup x = some .globalImplicit) (hm : mg x = none) (hv : bootBuiltins x = some u) (r : RelV v u) (q : Kt (val v) m) (hn : x ≠ "__name__" := by decide) (hd : (x == ("__debug__" : Str)) = false := by decide) : WE X (.Name x pos) ρ m Kt :=
  we_leaf (pe_bltn (gl_of a hg) (by rw [a.mt]; exact hm) hv r hn hd) (fun _ _ => rfl) q
/-! ### operators -/
abbrev KOp := AV → AV → Mem → KA → Prop
/-- an operator by values, told of abstract values -/
def AbsOp (K : PySem.W.Frag) (r : R2) (R : KOp) : Prop :=
  ∀ (A B : AV) (m : Mem) (Kt : KA) (fr : Frm) (ρ : Rho) (σ : St) (H : Hp) (x y : V) (Q : VK), R A B m Kt → Holds K fr ρ m σ H → A.p K (Ms fr m) H x → B.p K (Ms fr m) H y → Got K fr ρ m σ H Kt Q → r x y H Q
theorem two {e f : Expr} {r : R2} {R : KOp} (hr : AbsOp X.K r R) (h : WE X e ρ m fun A m1 => WE X f ρ m1 fun B m2 => R A B m2 Kt) {fr : Frm} {σ : St} {H : Hp} (o : Holds X.K fr ρ m σ H) {Q : VK} (g : Got X.K fr ρ m σ H Kt Q) :
    tOp r (wpE X e) (wpE X f) σ H Q := by
  refine h.to o fun A m1 v H1 h1 x1 o1 r1 => h1.to o1 fun B m2 u H2 h2 x2 o2 r2 => ?_
  exact hr A B m2 Kt fr ρ σ H2 v u Q h2 o2 (A.st r1 x2) r2 (g.from (x1.trans x2))
theorem we_bin {e f : Expr} {op : Operator} {r : R2} {R : KOp} (ho : OpR X (binaryOp op) r) (hr : AbsOp X.K r R) (h : WE X e ρ m fun A m1 => WE X f ρ m1 fun B m2 => R A B m2 Kt) : WE X (.BinOp e op f pos) ρ m Kt :=
  fun fr σ H o Q g => le_E (pe_op ho wpE_pe wpE_pe) (two hr h o g)
theorem we_cmp {e f : Expr} {op : CmpOp} {r : R2} {R : KOp} (ho : OpR X (compareOp op) r) (hr : AbsOp X.K r R) (hm : behindInMarks op f = false) (h : WE X e ρ m fun A m1 => WE X f ρ m1 fun B m2 => R A B m2 Kt) : WE X (.Compare e [op] [f] pos) ρ m Kt :=
  fun fr σ H o Q g => le_E (pe_cmpR ho wpE_pe wpE_pe hm) (two hr h o g)
/-- ints -/
def RI (C : Int → Int → Prop) (f : Int → Int → V) : KOp := fun A B m Kt => ∃ i j, A = int i ∧ B = int j ∧ C i j ∧ Kt (val (f i j)) m
theorem abs_I {C : Int → Int → Prop} {f : Int → Int → V} : AbsOp K (rI C f) (RI C f) := by
  rintro A B m Kt fr ρ σ H x y Q ⟨i, j, rfl, rfl, c, q⟩ o rx ry g
  exact ⟨i, j, rx, ry, c, g _ m _ H q (.refl _ _) o rfl⟩
theorem abs_I0 {f : Int → Int → V} : AbsOp K (rI0 f) (RI (fun _ _ => True) f) := by
  rintro A B m Kt fr ρ σ H x y Q ⟨i, j, rfl, rfl, _, q⟩ o rx ry g
  exact ⟨i, j, rx, ry, g _ m _ H q (.refl _ _) o rfl⟩
end
end AL
namespace AL
open PySem PySem.Spec L2
open PyProof.Rows hiding St
/-- by a bool -/
def Br (b : Bool) (A B : Prop) : Prop := match b with
  | true => A
  | false => B
theorem br {b : Bool} {A B : Prop} (h1 : b = true → A) (h2 : b = false → B) : Br b A B := by
  cases b with
  | true => exact h1 rfl
  | false => exact h2 rfl
theorem brT {b : Bool} {A B : Prop} (h : b = true) (h1 : A) : Br b A B := by rw [h]; exact h1
theorem brF {b : Bool} {A B : Prop} (h : b = false) (h1 : B) : Br b A B := by rw [h]; exact h1
theorem Br.ite {b : Bool} {A B : Prop} (h : Br b A B) : if b = true then A else B := by cases b with
  | true => exact h
  | false => exact h
section
variable {P : Program} {w : World} {K : PySem.W.Frag} {mg : Str → Option Value} {base : Heap} {N : List Str} {sc : Scope} {df : Bool} {k : Nat} {X : Cx}
variable {ρ : Rho} {m : Mem} {Kt : KA} {pos : Pos} {e f : Expr}
theorem Holds.ex {fr : Frm} {σ : St} {H : Hp} (o : Holds K fr ρ m σ H) : MemV K fr m H := o.mem
/-! ### tests -/
variable {Kb : KT}
theorem wt_val (h : WE X e ρ m fun A m1 => ∃ b, A = bool b ∧ Kb b m1) (he : ∀ whole, isTrue e X.env whole = (do let v ← whole; standAt e.pos; holding [v] (truthy v)) := by intro _; rfl) : WT X e ρ m Kb :=
  fun fr σ H o Q g => le_T (pt_val wpE_pe he) (h.to o fun A m' v H' ⟨b, ea, q⟩ x o' r => by
    subst ea
    exact ⟨b, r, g b m' H' q x o'⟩)
theorem wt_cmp {op : CmpOp} {r : R2} {R : KOp} (ho : OpR X (compareOp op) r) (hr : AbsOp X.K r R) (hm : behindInMarks op f = false) (h : WE X e ρ m fun A m1 => WE X f ρ m1 fun B m2 => R A B m2 fun C m3 => ∃ b, C = bool b ∧ Kb b m3) : WT X (.Compare e [op] [f] pos) ρ m Kb :=
  fun fr σ H o Q g => le_T (pt_cmpR ho wpE_pe wpE_pe hm) (two hr h o fun A m' v H' ⟨b, ea, q⟩ x o' r => by
    subst ea
    exact ⟨b, r, g b m' H' q x o'⟩)
theorem wt_not (h : WT X e ρ m fun b m1 => Kb (!b) m1) : WT X (.UnaryOp .Not e pos) ρ m Kb :=
  fun fr σ H o Q g => le_T (pt_not wpT_pt) (h fr σ H o _ fun b m' H' q x o' => g (!b) m' H' q x o')
theorem wt_of {op es} (h : WW X (.BoolOp op es pos) ρ m Kb) : WT X (.BoolOp op es pos) ρ m Kb :=
  fun fr σ H o Q g => le_T (PW.pt wpW_pw) (h fr σ H o Q g)
theorem ww_and1 (h : WT X e ρ m Kb) : WW X (.BoolOp .And [e] pos) ρ m Kb := fun fr σ H o Q g => le_W (pw_and1 wpT_pt) (h fr σ H o Q g)
theorem ww_or1 (h : WT X e ρ m Kb) : WW X (.BoolOp .Or [e] pos) ρ m Kb := fun fr σ H o Q g => le_W (pw_or1 wpT_pt) (h fr σ H o Q g)
theorem ww_and {rest} (h : WT X e ρ m fun b m1 => Br b (WW X (.BoolOp .And (f :: rest) pos) ρ m1 Kb) (Kb false m1)) : WW X (.BoolOp .And (e :: f :: rest) pos) ρ m Kb :=
  fun fr σ H o Q g => le_W (pw_and wpT_pt wpW_pw) (h fr σ H o _ fun b m' H' q x o' => by
    cases b with
    | true => exact q fr σ H' o' Q (g.from x)
    | false => exact g false m' H' q x o')
theorem ww_or {rest} (h : WT X e ρ m fun b m1 => Br b (Kb true m1) (WW X (.BoolOp .Or (f :: rest) pos) ρ m1 Kb)) : WW X (.BoolOp .Or (e :: f :: rest) pos) ρ m Kb :=
  fun fr σ H o Q g => le_W (pw_or wpT_pt wpW_pw) (h fr σ H o _ fun b m' H' q x o' => by
    cases b with
    | true => exact g true m' H' q x o'
    | false => exact q fr σ H' o' Q (g.from x))
/-! ### choices -/
theorem we_ifexp {c : Expr} (h : WT X c ρ m fun b m1 => Br b (WE X e ρ m1 Kt) (WE X f ρ m1 Kt)) : WE X (.IfExp c e f pos) ρ m Kt :=
  fun fr σ H o Q g => le_E (pe_ifExp wpT_pt wpE_pe wpE_pe) (h fr σ H o _ fun b m' H' q x o' => by
    cases b with
    | true => exact q fr σ H' o' Q (g.from x)
    | false => exact q fr σ H' o' Q (g.from x))
theorem we_one {op} (h : WE X e ρ m Kt) : WE X (.BoolOp op [e] pos) ρ m Kt := fun fr σ H o Q g => le_E (pe_one wpE_pe) (h fr σ H o Q g)
theorem we_and {rest} (h : WE X e ρ m fun A m1 => ∃ b, A = bool b ∧ Br b (WE X (.BoolOp .And (f :: rest) pos) ρ m1 Kt) (Kt (bool false) m1)) : WE X (.BoolOp .And (e :: f :: rest) pos) ρ m Kt :=
  fun fr σ H o Q g => le_E (pe_and wpE_pe wpE_pe) (h.to o fun A m' v H' ⟨b, ea, q⟩ x o' r => by
    subst ea
    refine ⟨b, r, ?_⟩
    cases b with
    | true => exact q fr σ H' o' Q (g.from x)
    | false => exact g _ m' _ H' q x o' rfl)
theorem we_or {rest} (h : WE X e ρ m fun A m1 => ∃ b, A = bool b ∧ Br b (Kt (bool true) m1) (WE X (.BoolOp .Or (f :: rest) pos) ρ m1 Kt)) : WE X (.BoolOp .Or (e :: f :: rest) pos) ρ m Kt :=
  fun fr σ H o Q g => le_E (pe_or wpE_pe wpE_pe) (h.to o fun A m' v H' ⟨b, ea, q⟩ x o' r => by
    subst ea
    refine ⟨b, r, ?_⟩
    cases b with
    | true => exact g _ m' _ H' q x o' rfl
    | false => exact q fr σ H' o' Q (g.from x))
theorem we_not (h : WE X e ρ m fun A m1 => ∃ b, A = bool b ∧ Kt (bool (!b)) m1) : WE X (.UnaryOp .Not e pos) ρ m Kt :=
  fun fr σ H o Q g => le_E (pe_not wpE_pe) (h.to o fun A m' v H' ⟨b, ea, q⟩ x o' r => by
    subst ea
    exact ⟨b, r, g _ m' _ H' q x o' rfl⟩)
theorem we_neg (h : WE X e ρ m fun A m1 => ∃ i, A = int i ∧ Kt (int (-i)) m1) : WE X (.UnaryOp .USub e pos) ρ m Kt :=
  fun fr σ H o Q g => le_E (pe_un un_neg wpE_pe) (h.to o fun A m' v H' ⟨b, ea, q⟩ x o' r => by
    subst ea
    exact ⟨b, r, g _ m' _ H' q x o' rfl⟩)
/-! ### arguments, displays -/
variable {es : List Expr} {Kl : KL}
theorem wa_nil (h : Kl [] m) : WA X [] ρ m Kl := fun fr σ H o Q g => le_A pa_nil (g [] m [] H h (.refl _ _) o .nil)
theorem wa_cons (h : WE X e ρ m fun A m1 => WA X es ρ m1 fun As m2 => Kl (A :: As) m2) (hs : starEach (e :: es) X.env = (false, eval e X.env) :: starEach es X.env := by rfl) : WA X (e :: es) ρ m Kl :=
  fun fr σ H o Q g => le_A (pa_cons wpE_pe wpA_pa hs) (h.to o fun A m1 v H1 h1 x1 o1 r1 => h1 fr σ H1 o1 _ fun As m2 vs H2 h2 x2 o2 r2 =>
    g (A :: As) m2 (v :: vs) H2 h2 (x1.trans x2) o2 (.cons (A.st r1 x2) r2))
theorem at_new {fr : Frm} {H : Hp} {q : Addr} {xs : List V} (o : MemV K fr m H) (hq : H q = none) : TupAt K (Ms fr m) (upd H q (.tup xs)) q xs := .inl ⟨upd_same, o.notin hq⟩
theorem at_newL {fr : Frm} {H : Hp} {q : Addr} {xs : List V} (o : MemV K fr m H) (hq : H q = none) : ListAt (Ms fr m) (upd H q (.lst xs)) q xs := ⟨upd_same, o.notin hq⟩
theorem we_tup {ctx} (h : WA X es ρ m fun As m1 => As.length ≤ 1000 ∧ Kt (tup As) m1) : WE X (.Tuple es ctx pos) ρ m Kt :=
  fun fr σ H o Q g => le_E (pe_tup wpA_pa) (h fr σ H o _ fun As m1 vs H1 ⟨hl, h1⟩ x1 o1 r1 =>
    ⟨Nat.le_of_lt (small1000 (by rw [← r1.length]; exact hl)), fun q hq => g _ m1 _ _ h1 (x1.trans (.alloc hq)) (o1.alloc hq) ⟨q, vs, rfl, at_new o1.mem hq, r1.st (.alloc hq)⟩⟩)
/-- a new list that may be changed: what follows is told for it -/
def WN (X : Cx) (e : Expr) (ρ : Rho) (m : Mem) (Kl : KL) : Prop :=
  ∀ fr σ H, Holds X.K fr ρ m σ H → ∀ Q : VK, (∀ As m' q vs H', Kl As m' → Ext (Ms fr m) H (Ms ((q, .lst vs) :: fr) m') H' → Holds X.K ((q, .lst vs) :: fr) ρ m' σ H' → AllV X.K (Ms ((q, .lst vs) :: fr) m') H' As vs → Q (.ref q) H') → wpE X e σ H Q
theorem new_lst {fr : Frm} {q : Addr} {vs : List V} {As : List AV} {σ : St} {H : Hp} (o : Holds K ((q, .lst vs) :: fr) ρ m σ H) (r : AllV K (Ms ((q, .lst vs) :: fr) m) H As vs) : Holds K fr ρ m σ H ∧ (lst As).p K (Ms fr m) H (.ref q) :=
  ⟨⟨o.env.st .pop, o.mem.pop⟩, q, vs, rfl, ⟨o.mem.frm _ _ List.mem_cons_self, (List.nodup_cons.mp o.mem.nd).1⟩, r.st .pop⟩
theorem WN.we (h : WN X e ρ m fun As m1 => Kt (lst As) m1) : WE X e ρ m Kt :=
  fun fr σ H o Q g => h fr σ H o Q fun As m' q vs H' k x o' r => g _ m' _ H' k (x.trans .pop) (new_lst o' r).1 (new_lst o' r).2
theorem wn_list (h : WA X es ρ m fun As m1 => As.length ≤ 1000 ∧ Kl As m1) : WN X (.List es pos) ρ m Kl :=
  fun fr σ H o Q g => le_E (pe_lst wpA_pa) (h fr σ H o _ fun As m1 vs H1 ⟨hl, h1⟩ x1 o1 r1 =>
    ⟨Nat.le_of_lt (small1000 (by rw [← r1.length]; exact hl)), fun q hq => g As m1 q vs _ h1 (x1.trans (.push hq)) ⟨o1.env.st (.push hq), o1.mem.push hq⟩ (r1.st (.push hq))⟩)
end
end AL
namespace AL
open PySem PySem.Spec L2
open PyProof.Rows hiding St
section
variable {P : Program} {w : World} {K : PySem.W.Frag} {mg : Str → Option Value} {base : Heap} {N : List Str} {sc : Scope} {df : Bool} {k : Nat} {X : Cx}
variable {ρ : Rho} {m : Mem} {Kt : KA} {pos : Pos} {e f : Expr} {E : EndsA}
/-! ### statements -/
theorem wss_nil (h : E.nx ρ m) : WSs X [] ρ m E := fun fr σ H o D g => le_Ss pss_nil (g.nx ρ m σ H h (.refl _ _) o)
theorem wss_cons {st : Stmt} {rest : List Stmt} (h : WS X st ρ m { E with nx := fun ρ1 m1 => WSs X rest ρ1 m1 E }) : WSs X (st :: rest) ρ m E :=
  fun fr σ H o D g => le_Ss (pss_cons wpS_ps wpSs_pss) (h fr σ H o _ ⟨fun ρ1 m1 σ1 H1 q x o1 => q fr σ1 H1 o1 D (g.from x), g.rt, g.bk, g.ct⟩)
theorem ws_ret (h : WE X e ρ m E.rt) : WS X (.Return (some e) pos) ρ m E :=
  fun fr σ H o D g => le_S (ps_ret wpE_pe) (h.to o fun A m' v H' q x o' r => g.rt A m' v H' q x o'.mem r)
theorem ws_expr (h : WE X e ρ m fun _ m1 => E.nx ρ m1) (hs : swapsWith e none pos.line X.env = pure false := by rfl) : WS X (.Expr e pos) ρ m E :=
  fun fr σ H o D g => le_S (ps_expr wpE_pe hs) (h.to o fun A m' v H' q x o' r => g.nx ρ m' σ H' q x o')
theorem ws_if {c : Expr} {a b : List Stmt} (h : WT X c ρ m fun t m1 => Br t (WSs X a ρ m1 E) (WSs X b ρ m1 E)) : WS X (.If c a b pos) ρ m E :=
  fun fr σ H o D g => le_S (ps_if wpT_pt wpSs_pss wpSs_pss) (h fr σ H o _ fun t m' H' q x o' => by
    cases t with
    | true => exact q fr σ H' o' D (g.from x)
    | false => exact q fr σ H' o' D (g.from x))
/-! targets -/
def wpG (X : Cx) (tg : Expr) : TG := fun v σ H Q => ∀ (pins : List (Addr × Obj)) (s : Shared) (u : Value), Inv X pins σ H s → RelV v u →
    wpAny (model X.prog X.w) X.A (assign tg X.env u) (fun _ s' => ∃ σ' H', Inv X pins σ' H' s' ∧ Q σ' H') X.xe s
theorem wpG_pg {tg : Expr} : PG X tg (wpG X tg) := ⟨fun pins s _ _ _ u _ I r h => h pins s u I r⟩
theorem le_G {tg : Expr} {t : TG} (h : PG X tg t) {v : V} {σ : St} {H : Hp} {Q : St → Hp → Prop} (q : t v σ H Q) : wpG X tg v σ H Q := fun pins s u I r => h.run pins s σ H v u Q I r q
abbrev KG := Rho → Mem → Prop
def WG (X : Cx) (tg : Expr) (A : AV) (ρ : Rho) (m : Mem) (Kg : KG) : Prop :=
  ∀ fr σ H v, Holds X.K fr ρ m σ H → A.p X.K (Ms fr m) H v → ∀ Q : St → Hp → Prop, (∀ ρ' m' σ' H', Kg ρ' m' → Ext (Ms fr m) H (Ms fr m') H' → Holds X.K fr ρ' m' σ' H' → Q σ' H') → wpG X tg v σ H Q
variable {Kg : KG} {A : AV} (a : At P w K mg base N sc df k X)
include a in
theorem pgn (i : Nat) {x : Str} (hN : N[i]? = some x) (hl : sc.names.lookup x = some .local ∨ (df = true ∧ sc.names.lookup x = some .cell)) : PG X (.Name x pos) (gName i) := by
  refine pg_name (by rw [a.nm]; exact a.nd) (by rw [a.nm]; exact hN) ?_ ?_
  · unfold L2.Loc
    rw [a.sce]
    rcases hl with h | h
    · exact .inl h
    · exact .inr h.2
  · rcases hl with h | h
    · exact .inr (by rw [a.sce]; exact h)
    · exact .inl (a.fnc h.1 x)
include a in
theorem wg_name (i : Nat) {x : Str} (hN : N[i]? = some x) (hl : sc.names.lookup x = some .local ∨ (df = true ∧ sc.names.lookup x = some .cell)) (h : Kg (ρ.set i (some A)) m) : WG X (.Name x pos) A ρ m Kg :=
  fun fr σ H v o r Q g => le_G (pgn a i hN hl) (g _ m _ H h (.refl _ _) ⟨o.env.set r i, o.mem⟩)
/-- several names -/
def setAll (ρ : Rho) : List (Nat × AV) → Rho
  | [] => ρ
  | (i, A) :: r => setAll (ρ.set i (some A)) r
include a in
theorem pgs_names (js : List (Nat × Str × Pos)) (h : ∀ j ∈ js, N[j.1]? = some j.2.1 ∧ (sc.names.lookup j.2.1 = some .local ∨ (df = true ∧ sc.names.lookup j.2.1 = some .cell))) :
    PGs X (js.map fun j => .Name j.2.1 j.2.2) (js.foldr (fun j t => gCons (gName j.1) t) gNil) := by
  induction js with
  | nil => exact pgs_nil
  | cons j js ih => exact pgs_cons (pgn a j.1 (h j List.mem_cons_self).1 (h j List.mem_cons_self).2) (ih fun z hz => h z (List.mem_cons_of_mem _ hz))
theorem names_run {fr : Frm} : ∀ (js : List Nat) (As : List AV) (vs : List V) (ρ : Rho) (σ : St) (H : Hp) (Q : St → Hp → Prop), js.length = As.length → EnvV K (Ms fr m) H ρ σ → AllV K (Ms fr m) H As vs →
    (∀ σ', EnvV K (Ms fr m) H (setAll ρ (js.zip As)) σ' → Q σ' H) → js.foldr (fun j t => gCons (gName j) t) gNil vs σ H Q
  | [], [], [], ρ, σ, H, Q, _, o, .nil, g => ⟨rfl, g σ o⟩
  | j :: js, A :: As, v :: vs, ρ, σ, H, Q, hl, o, .cons r t, g => ⟨v, vs, rfl, names_run js As vs _ _ H Q (by simpa using hl) (o.set r j) t g⟩
  | [], _ :: _, _, _, _, _, _, hl, _, _, _ => by simp at hl
  | _ :: _, [], _, _, _, _, _, hl, _, _, _ => by simp at hl
include a in
theorem wg_tup (js : List (Nat × Str × Pos)) {ctx} {es : List Expr} {As : List AV} (hes : es = js.map fun j => .Name j.2.1 j.2.2) (hA : A = tup As) (hl : js.length = As.length)
    (hj : ∀ j ∈ js, N[j.1]? = some j.2.1 ∧ (sc.names.lookup j.2.1 = some .local ∨ (df = true ∧ sc.names.lookup j.2.1 = some .cell)))
    (hn : (assignEach es X.env).length = js.length) (hst : (assignEach es X.env).findIdx? (·.1) = none) (h : Kg (setAll ρ ((js.map (·.1)).zip As)) m) : WG X (.Tuple es ctx pos) A ρ m Kg := by
  intro fr σ H v o r Q g
  subst hA
  subst hes
  obtain ⟨p, vs, rfl, ht, hr⟩ := r
  refine le_G (pg_tup a.calm (pgs_names a js hj) hn hst) ⟨p, vs, rfl, ht.sq, by rw [← hr.length, hl], ?_⟩
  have q := names_run (K := X.K) (m := m) (fr := fr) (js.map (·.1)) As vs ρ σ H Q (by rw [List.length_map, hl]) o.env hr (fun σ' o' => g _ m σ' H h (.refl _ _) ⟨o', o.mem⟩)
  rw [List.foldr_map] at q
  exact q
theorem ws_asg {tg : Expr} (h : WE X e ρ m fun A m1 => WG X tg A ρ m1 E.nx) (hs : swapsWithSole [tg] e pos.line X.env = pure false := by rfl) (hw : swappedStores [tg] e X.env = pure none := by rfl)
    (h1 : (assignEach [tg] X.env).map (·.2) = [assign tg X.env] := by rfl) : WS X (.Assign [tg] e pos) ρ m E :=
  fun fr σ H o D g => le_S (ps_asg wpE_pe wpG_pg hs hw h1) (h.to o fun A m' v H' q x o' r => q fr σ H' v o' r _ fun ρ2 m2 σ2 H2 q2 x2 o2 => g.nx ρ2 m2 σ2 H2 q2 (x.trans x2) o2)
include a in
theorem ws_set (i : Nat) {x : Str} {pos' : Pos} (hN : N[i]? = some x) (hl : sc.names.lookup x = some .local ∨ (df = true ∧ sc.names.lookup x = some .cell)) (h : WE X e ρ m fun A m1 => E.nx (ρ.set i (some A)) m1)
    (hs : swapsWith e (some (.Name x pos')) pos.line X.env = pure false := by rfl) : WS X (.Assign [.Name x pos'] e pos) ρ m E := by
  intro fr σ H o D g
  refine le_S (ps_set (i := i) (by rw [a.nm]; exact a.nd) (by rw [a.nm]; exact hN) ?_ wpE_pe hs ?_) (h.to o fun A m' v H' q x o' r => g.nx _ m' _ H' q x ⟨o'.env.set r i, o'.mem⟩)
  · unfold L2.Loc
    rw [a.sce]
    rcases hl with h | h
    · exact .inl h
    · exact .inr h.2
  · rcases hl with h | h
    · exact .inr (by rw [a.sce]; exact h)
    · exact .inl (a.fnc h.1 x)
theorem nd_snoc {fr : Frm} {q : Addr} {As : Cell} (nd : (Ms fr m).Nodup) (nq : q ∉ Ms fr m) : (Ms fr (m ++ [(q, As)])).Nodup := by
  unfold Ms at *
  rw [List.map_append, ← List.append_assoc]
  refine List.nodup_append.mpr ⟨nd, by simp, fun x hx y hy => ?_⟩
  rw [List.map_cons, List.map_nil, List.mem_singleton] at hy
  intro e; subst e; subst hy; exact nq hx
theorem mem_snoc {fr : Frm} {q : Addr} {As : List AV} {vs : List V} {H : Hp} (o : MemV K fr m H) (nq : q ∉ Ms fr m) (hv : H q = some (.lst vs)) (r : AllV K (Ms fr m) H As vs) (x : Ext (Ms fr m) H (Ms fr (m ++ [(q, .l As)])) H) : MemV K fr (m ++ [(q, .l As)]) H := by
  refine ⟨o.frm, fun b Bs z => ?_, nd_snoc o.nd nq⟩
  rcases List.mem_append.mp z with z | z
  · obtain ⟨us, e, r'⟩ := o.at_ b Bs z
    exact ⟨us, e, r'.st x⟩
  · rw [List.mem_singleton] at z
    cases z
    exact ⟨_, hv, AllV.st r x⟩
/-! ### loops -/
def wpI (X : Cx) (tg iter : Expr) : TI := fun σ H R => ∀ (pins : List (Addr × Obj)) (s : Shared), Inv X pins σ H s → wpAny (model X.prog X.w) X.A (eval iter X.env) (fun v s1 => wpAny (model X.prog X.w) X.A (pyIter v) (PIE X pins σ tg R) X.xe s1) X.xe s
theorem wpI_pi {tg iter : Expr} : PI X tg iter (wpI X tg iter) := ⟨fun pins s _ _ _ I h => h pins s I⟩
theorem le_I {tg iter : Expr} {t : TI} (h : PI X tg iter t) {σ : St} {H : Hp} {R : It → Hp → Prop} (q : t σ H R) : wpI X tg iter σ H R := fun pins s I => h.run pins s σ H R I q
/-- what an iterator gives, from a state on -/
structure IterOk (K : PySem.W.Frag) (J : It) (M0 : List Addr) (H0 : Hp) (Is : List AV) : Prop where
  go : ∀ i M H, i < Is.length → Ext M0 H0 M H → J.go i H
  stop : ∀ M H, Ext M0 H0 M H → J.stop Is.length H
  yld : ∀ i M H x H', i < Is.length → Ext M0 H0 M H → (∀ b ∈ M, ∃ o, H b = some o) → J.yld i H x H' → (H' = H ∨ ∃ T o, H T = none ∧ H' = upd H T o) ∧ ∀ A, Is[i]? = some A → A.p K M H' x
def WI (X : Cx) (tg iter : Expr) (ρ : Rho) (m : Mem) (Ki : List AV → Mem → Prop) : Prop :=
  ∀ fr σ H, Holds X.K fr ρ m σ H → ∀ R : It → Hp → Prop, (∀ Is m' J H', Ki Is m' → Ext (Ms fr m) H (Ms fr m') H' → Holds X.K fr ρ m' σ H' → IterOk X.K J (Ms fr m') H' Is → R J H') → wpI X tg iter σ H R
theorem MemV.ofYld {fr : Frm} {H H' : Hp} (o : MemV K fr m H) (h : H' = H ∨ ∃ T u, H T = none ∧ H' = upd H T u) : MemV K fr m H' ∧ Ext (Ms fr m) H (Ms fr m) H' := by
  rcases h with rfl | ⟨T, u, hT, rfl⟩
  · exact ⟨o, .refl _ _⟩
  · exact ⟨o.alloc hT, .alloc hT⟩
include a in
theorem ws_for (W : Nat → Rho → Mem → Prop) {tg iter : Expr} {body : List Stmt} (h : WI X tg iter ρ m fun Is m1 => W 0 ρ m1 ∧ (∀ i A ρ' m', Is[i]? = some A → W i ρ' m' → WG X tg A ρ' m' fun ρ2 m2 => WSs X body ρ2 m2 { E with nx := W (i + 1), ct := W (i + 1), bk := E.nx }) ∧ ∀ ρ' m', W Is.length ρ' m' → E.nx ρ' m')
    (hs : ∀ x, foldedSetIterable iter X.env x = pure x := by intro _; rfl) : WS X (.For tg iter body [] pos) ρ m E := by
  intro fr σ H o D g
  refine le_S (ps_for a.pso a.calm wpI_pi wpG_pg wpSs_pss hs) ?_
  refine h fr σ H o _ fun Is m1 J H1 ⟨w0, step, fin⟩ x1 o1 it => ?_
  refine ⟨fun i n σ' H' => n = Is.length - i ∧ i ≤ Is.length ∧ ∃ ρ' m', W i ρ' m' ∧ Ext (Ms fr m1) H1 (Ms fr m') H' ∧ Holds X.K fr ρ' m' σ' H', ⟨_, rfl, Nat.zero_le _, ρ, m1, w0, .refl _ _, o1⟩, ?_⟩
  rintro i n σ' H' ⟨rfl, hi, ρ', m', hw, x, o'⟩
  by_cases hlt : i < Is.length
  · refine .inr ⟨it.go i _ _ hlt x, fun σ2 H2 => i + 1 ≤ Is.length ∧ ∃ ρ2 m2, W (i + 1) ρ2 m2 ∧ Ext (Ms fr m1) H1 (Ms fr m2) H2 ∧ Holds X.K fr ρ2 m2 σ2 H2, fun σ2 H2 hN => ⟨Is.length - (i + 1), by omega, rfl, hN.1, hN.2⟩, fun v H2 hy => ?_⟩
    have hA : Is[i]? = some Is[i] := by simp [hlt]
    obtain ⟨hh, hv⟩ := it.yld i _ _ v H2 hlt x (fun b hb => o'.mem.has hb) hy
    obtain ⟨mv2, x2⟩ := o'.mem.ofYld hh
    have o2 : Holds X.K fr ρ' m' σ' H2 := ⟨o'.env.st x2, mv2⟩
    refine step i Is[i] ρ' m' hA hw fr σ' H2 v o2 (hv _ hA) _ fun ρ3 m3 σ3 H3 q3 x3 o3 => ?_
    refine q3 fr σ3 H3 o3 _ ⟨fun ρ4 m4 σ4 H4 q4 x4 o4 => ⟨hlt, ρ4, m4, q4, ((x.trans x2).trans x3).trans x4, o4⟩, fun A m4 v4 H4 q4 x4 o4 r4 => g.rt A m4 v4 H4 q4 ((((x1.trans x).trans x2).trans x3).trans x4) o4 r4,
      fun ρ4 m4 σ4 H4 q4 x4 o4 => g.nx ρ4 m4 σ4 H4 q4 ((((x1.trans x).trans x2).trans x3).trans x4) o4, fun ρ4 m4 σ4 H4 q4 x4 o4 => ⟨hlt, ρ4, m4, q4, ((x.trans x2).trans x3).trans x4, o4⟩⟩
  · have ei : i = Is.length := by omega
    subst ei
    exact .inl ⟨it.stop _ _ x, g.nx ρ' m' σ' H' (fin ρ' m' hw) (x1.trans x) o'⟩
include a in
theorem ws_while (W : Nat → Rho → Mem → Prop) {c : Expr} {body : List Stmt} (n0 : Nat) (h0 : W n0 ρ m) (step : ∀ n ρ' m', W n ρ' m' → WT X c ρ' m' fun b m1 => Br b (WSs X body ρ' m1 { E with nx := fun ρ2 m2 => ∃ n', n' < n ∧ W n' ρ2 m2, ct := fun ρ2 m2 => ∃ n', n' < n ∧ W n' ρ2 m2, bk := E.nx }) (E.nx ρ' m1)) : WS X (.While c body [] pos) ρ m E := by
  intro fr σ H o D g
  refine le_S (ps_while a.pso wpT_pt wpSs_pss) ?_
  refine ⟨fun n σ' H' => ∃ ρ' m', W n ρ' m' ∧ Ext (Ms fr m) H (Ms fr m') H' ∧ Holds X.K fr ρ' m' σ' H', ⟨n0, ρ, m, h0, .refl _ _, o⟩, ?_⟩
  rintro n σ' H' ⟨ρ', m', hw, x, o'⟩
  refine step n ρ' m' hw fr σ' H' o' _ fun b m1 H1 q x1 o1 => ?_
  cases b with
  | true =>
    refine ⟨fun σ2 H2 => ∃ n', n' < n ∧ ∃ ρ2 m2, W n' ρ2 m2 ∧ Ext (Ms fr m) H (Ms fr m2) H2 ∧ Holds X.K fr ρ2 m2 σ2 H2, fun σ2 H2 hN => hN, ?_⟩
    refine q fr σ' H1 o1 _ ⟨fun ρ4 m4 σ4 H4 ⟨n', hn, q4⟩ x4 o4 => ⟨n', hn, ρ4, m4, q4, (x.trans x1).trans x4, o4⟩, fun A m4 v4 H4 q4 x4 o4 r4 => g.rt A m4 v4 H4 q4 ((x.trans x1).trans x4) o4 r4,
      fun ρ4 m4 σ4 H4 q4 x4 o4 => g.nx ρ4 m4 σ4 H4 q4 ((x.trans x1).trans x4) o4, fun ρ4 m4 σ4 H4 ⟨n', hn, q4⟩ x4 o4 => ⟨n', hn, ρ4, m4, q4, (x.trans x1).trans x4, o4⟩⟩
  | false => exact g.nx ρ' m1 σ' H1 q (x.trans x1) o1
end
end AL
namespace AL
open PySem PySem.Spec L2
open PyProof.Rows hiding St
section
variable {P : Program} {w : World} {K : PySem.W.Frag} {mg : Str → Option Value} {base : Heap} {N : List Str} {sc : Scope} {df : Bool} {k : Nat} {X : Cx}
variable {ρ : Rho} {m : Mem} {Kt : KA} {pos : Pos} {e f : Expr} {E : EndsA} {Kl : KL} {es : List Expr}
/-! ### what reads as a list, as a tuple -/
def IsLs (m : Mem) (A : AV) (As : List AV) : Prop := ∀ (K : PySem.W.Frag) (fr : Frm) (H : Hp) (v : V), MemV K fr m H → A.p K (Ms fr m) H v → ∃ a vs, v = .ref a ∧ H a = some (.lst vs) ∧ AllV K (Ms fr m) H As vs
theorem isLs_lst {As : List AV} : IsLs m (lst As) As := fun K fr H v _ ⟨a, vs, e, h, r⟩ => ⟨a, vs, e, h.1, r⟩
theorem isLs_mut {q : Addr} {As : List AV} (h : (q, .l As) ∈ m) : IsLs m (val (.ref q)) As := fun K fr H v o e => by
  obtain ⟨u, hv, r⟩ := o.at_ q _ h
  obtain ⟨vs, rfl, r⟩ := r.lst
  exact ⟨q, vs, e, hv, r⟩
theorem tup_sq {As : List AV} {M : List Addr} {H : Hp} {v : V} (h : (tup As).p K M H v) : ∃ a vs, v = .ref a ∧ SqT K H a vs ∧ AllV K M H As vs := by
  obtain ⟨a, vs, e, t, r⟩ := h
  exact ⟨a, vs, e, t.sq, r⟩
/-! ### iterators -/
theorem Ext.sqL {a : Addr} {xs : List V} {M M' : List Addr} {H H' : Hp} (h : ListAt M H a xs) (x : Ext M H M' H') : SqL K H' a xs := (h.st x).sq
variable {Ki : List AV → Mem → Prop} {tg : Expr}
theorem yld_same {As : List AV} {vs : List V} {M0 M : List Addr} {H0 H : Hp} {i : Nat} {x : V} (r : AllV K M0 H0 As vs) (xt : Ext M0 H0 M H) (hx : vs[i]? = some x) : ∀ A, As[i]? = some A → A.p K M H x := fun A hA => by
  obtain ⟨v, h1, h2⟩ := r.get hA
  rw [hx] at h1; cases h1
  exact A.st h2 xt
theorem wi_list (h : WE X e ρ m fun A m1 => ∃ As, A = lst As ∧ Ki As m1) : WI X tg e ρ m Ki :=
  fun fr σ H o R g => le_I (pi_list wpE_pe) (h.to o fun A m' v H' ⟨As, ea, q⟩ x o' r => by
    subst ea
    obtain ⟨a, vs, rfl, ht, rr⟩ := r
    refine ⟨a, rfl, ⟨vs, ht.sq⟩, g As m' _ H' q x o' ⟨fun i M H2 hi xt => ?_, fun M H2 xt => ?_, fun i M H2 y H3 hi xt hM hy => ?_⟩⟩
    · rw [rr.length] at hi
      exact ⟨vs, vs[i], Ext.sqL ht xt, by simp [hi]⟩
    · exact ⟨vs, Ext.sqL ht xt, by rw [rr.length]; exact Nat.le_refl _⟩
    · obtain ⟨e1, e2⟩ := hy
      subst e1
      exact ⟨.inl rfl, yld_same rr xt (e2 vs (Ext.sqL ht xt))⟩)
theorem wi_tup (h : WE X e ρ m fun A m1 => ∃ As, A = tup As ∧ Ki As m1) : WI X tg e ρ m Ki :=
  fun fr σ H o R g => le_I (pi_tup wpE_pe) (h.to o fun A m' v H' ⟨As, ea, q⟩ x o' r => by
    subst ea
    obtain ⟨a, vs, rfl, ht, rr⟩ := r
    refine ⟨a, rfl, ⟨vs, ht.sq⟩, g As m' _ H' q x o' ⟨fun i M H2 hi xt => ?_, fun M H2 xt => ?_, fun i M H2 y H3 hi xt hM hy => ?_⟩⟩
    · rw [rr.length] at hi
      exact ⟨vs, vs[i], (ht.st xt).sq, by simp [hi]⟩
    · exact ⟨vs, (ht.st xt).sq, by rw [rr.length]; exact Nat.le_refl _⟩
    · obtain ⟨e1, e2⟩ := hy
      subst e1
      exact ⟨.inl rfl, yld_same rr xt (e2 vs (ht.st xt).sq)⟩)
def rangeA (lo : Int) (n : Nat) : List AV := (List.range n).map fun (i : Nat) => int (lo + (i : Int))
theorem iter_range {lo : Int} {n : Nat} {M0 : List Addr} {H0 : Hp} : IterOk K (Itr lo n) M0 H0 (rangeA lo n) := by
  have hl : (rangeA lo n).length = n := by simp [rangeA]
  refine ⟨fun i M H hi _ => by rw [hl] at hi; exact hi, fun M H _ => by rw [hl]; exact Nat.le_refl _, fun i M H x H' hi _ _ hy => ?_⟩
  obtain ⟨e1, e2⟩ := hy
  refine ⟨.inl e1, fun A hA => ?_⟩
  rw [hl] at hi
  simp [rangeA, hi] at hA
  subst hA
  exact e2
variable (a : At P w K mg base N sc df k X)
include a in
theorem wi_range1 {p : Pos} {c : Expr} (hg : sc.names.lookup ("range" : Str) = some .globalImplicit) (hm : mg ("range" : Str) = none) (h : WE X c ρ m fun A m1 => ∃ j : Int, A = int j ∧ (-(2 ^ 62) ≤ j ∧ j < 2 ^ 62) ∧ Ki (rangeA 0 j.toNat) m1) (hs : starEach [c] X.env = [(false, eval c X.env)] := by rfl) : WI X tg (.Call (.Name "range" p) [c] [] pos) ρ m Ki := by
  intro fr σ H o R g
  refine le_I (pi_range1 (gl_of a hg) (by rw [a.mt]; exact hm) (pa_cons wpE_pe pa_nil (by rw [hs]; rfl)) hs) ?_
  refine h.to o fun A m' v H' ⟨j, ea, b, q⟩ x o' r => ?_
  subst ea
  exact ⟨j, by rw [show v = V.int j from r], b.1, b.2, g _ m' _ H' q x o' iter_range⟩
include a in
theorem wi_range2 {p : Pos} {c d : Expr} (hg : sc.names.lookup ("range" : Str) = some .globalImplicit) (hm : mg ("range" : Str) = none) (h : WE X c ρ m fun A m1 => WE X d ρ m1 fun B m2 => ∃ i j : Int, A = int i ∧ B = int j ∧ (-(2 ^ 62) ≤ i ∧ i < 2 ^ 62 ∧ -(2 ^ 62) ≤ j ∧ j < 2 ^ 62) ∧ Ki (rangeA i (j - i).toNat) m2)
    (hs : starEach [c, d] X.env = [(false, eval c X.env), (false, eval d X.env)] := by rfl) (hs2 : starEach [d] X.env = [(false, eval d X.env)] := by rfl) : WI X tg (.Call (.Name "range" p) [c, d] [] pos) ρ m Ki := by
  intro fr σ H o R g
  refine le_I (pi_range2 (gl_of a hg) (by rw [a.mt]; exact hm) (pa_cons wpE_pe (pa_cons wpE_pe pa_nil (by rw [hs2]; rfl)) (by rw [hs, hs2])) hs hs2) ?_
  refine h.to o fun A m1 v H1 h1 x1 o1 r1 => h1.to o1 fun B m2 u H2 ⟨i, j, ea, eb, b, q⟩ x2 o2 r2 => ?_
  subst ea eb
  exact ⟨i, j, by rw [show v = V.int i from r1, show u = V.int j from r2], b, g _ m2 _ H2 q (x1.trans x2) o2 iter_range⟩
def pairA (As Bs : List AV) : List AV := List.zipWith (fun a b => tup [a, b]) As Bs
theorem pairA_len (As Bs : List AV) : (pairA As Bs).length = min As.length Bs.length := by simp [pairA]
theorem pair_yld {As Bs : List AV} {xs ys : List V} {M0 M : List Addr} {H0 H : Hp} {i : Nat} {T : Addr} {x y : V} (ra : AllV K M0 H0 As xs) (rb : AllV K M0 H0 Bs ys) (xt : Ext M0 H0 M H) (hT : H T = none) (hM : ∀ b ∈ M, ∃ o, H b = some o) (h1 : xs[i]? = some x) (h2 : ys[i]? = some y) :
    ∀ A, (pairA As Bs)[i]? = some A → A.p K M (upd H T (.tup [x, y])) (.ref T) := by
  intro A hA
  obtain ⟨Ax, hx, px⟩ := ra.getV h1
  obtain ⟨By, hy, py⟩ := rb.getV h2
  have e : (pairA As Bs)[i]? = some (tup [Ax, By]) := by simp [pairA, List.getElem?_zipWith, hx, hy]
  rw [e] at hA; cases hA
  have nT : T ∉ M := fun z => by
    obtain ⟨o, q⟩ := hM T z
    rw [hT] at q; cases q
  have xt2 : Ext M0 H0 M (upd H T (.tup [x, y])) := xt.trans (.alloc hT)
  exact ⟨T, [x, y], rfl, .inl ⟨upd_same, nT⟩, .cons (Ax.st px xt2) (.cons (By.st py xt2) .nil)⟩
include a in
theorem wi_zip {p tpos : Pos} {c d : Expr} {elts : List Expr} {kk} (hg : sc.names.lookup ("zip" : Str) = some .globalImplicit) (hm : mg ("zip" : Str) = none) (h : WE X c ρ m fun A m1 => WE X d ρ m1 fun B m2 => ∃ As Bs, ((A = lst As ∧ B = lst Bs) ∨ (A = tup As ∧ B = tup Bs)) ∧ Ki (pairA As Bs) m2)
    (hs : starEach [c, d] X.env = [(false, eval c X.env), (false, eval d X.env)] := by rfl) (hs2 : starEach [d] X.env = [(false, eval d X.env)] := by rfl) (hpl : (backTo pos (starEach [d] X.env)).any (·.1) = false := by rfl) : WI X (.Tuple elts kk tpos) (.Call (.Name "zip" p) [c, d] [] pos) ρ m Ki := by
  intro fr σ H o R g
  refine le_I (RZ.pi_zipA (gl_of a hg) (by rw [a.mt]; exact hm) (pa_cons wpE_pe (pa_cons wpE_pe pa_nil (by rw [hs2]; rfl)) (by rw [hs, hs2])) (by rw [hs, hs2]) hpl) ?_
  refine h.to o fun A m1 v H1 h1 x1 o1 r1 => h1.to o1 fun B m2 u H2 ⟨As, Bs, hh, q⟩ x2 o2 r2 => ?_
  have r1' := A.st r1 x2
  rcases hh with ⟨ea, eb⟩ | ⟨ea, eb⟩
  · subst ea eb
    obtain ⟨p1, xs, rfl, t1, ra⟩ := r1'
    obtain ⟨p2, ys, rfl, t2, rb⟩ := r2
    refine ⟨p1, p2, xs, ys, rfl, .inl ⟨t1.sq, t2.sq, g _ m2 _ H2 q (x1.trans x2) o2 ?_⟩⟩
    have w := walk_zip (K := X.K) (a := p1) (b := p2) (xs := xs) (ys := ys) rfl
    have hl : (pairA As Bs).length = min xs.length ys.length := by rw [pairA_len, ra.length, rb.length]
    refine ⟨fun i M H3 hi xt => w.goes i H3 (by rw [hl] at hi; exact hi) ⟨(t1.st xt).sq, (t2.st xt).sq⟩, fun M H3 xt => ?_, fun i M H3 y H4 hi xt hM hy => ?_⟩
    · rw [hl]; exact w.stops H3 ⟨(t1.st xt).sq, (t2.st xt).sq⟩
    · obtain ⟨T, x, z, e1, e2, e3, e4, e5⟩ := w.yields i H3 y H4 (by rw [hl] at hi; exact hi) ⟨(t1.st xt).sq, (t2.st xt).sq⟩ hy
      subst e1 e3
      exact ⟨.inr ⟨T, _, e2, rfl⟩, pair_yld ra rb xt e2 hM e4 e5⟩
  · subst ea eb
    obtain ⟨p1, xs, rfl, t1, ra⟩ := r1'
    obtain ⟨p2, ys, rfl, t2, rb⟩ := r2
    refine ⟨p1, p2, xs, ys, rfl, .inr ⟨t1.sq, t2.sq, g _ m2 _ H2 q (x1.trans x2) o2 ?_⟩⟩
    have hl : (pairA As Bs).length = min xs.length ys.length := by rw [pairA_len, ra.length, rb.length]
    refine ⟨fun i M H3 hi xt => ?_, fun M H3 xt => ?_, fun i M H3 y H4 hi xt hM hy => ?_⟩
    · rw [hl] at hi
      exact ⟨xs, ys, xs[i]'(by omega), ys[i]'(by omega), (t1.st xt).sq, (t2.st xt).sq, by simp, by simp⟩
    · rw [hl]; exact ⟨xs, ys, (t1.st xt).sq, (t2.st xt).sq, by omega⟩
    · obtain ⟨T, x, z, e1, e2, e3, e4, e5⟩ := hy
      subst e1 e3
      exact ⟨.inr ⟨T, _, e2, rfl⟩, pair_yld ra rb xt e2 hM (e4 _ (t1.st xt).sq) (e5 _ (t2.st xt).sq)⟩
def enumA (As : List AV) : List AV := pairA ((List.range As.length).map fun (i : Nat) => int (i : Int)) As
include a in
theorem wi_enum {p tpos : Pos} {c : Expr} {elts : List Expr} {kk} (hg : sc.names.lookup ("enumerate" : Str) = some .globalImplicit) (hm : mg ("enumerate" : Str) = none) (h : WE X c ρ m fun A m1 => ∃ As, A = lst As ∧ Ki (enumA As) m1)
    (hs : starEach [c] X.env = [(false, eval c X.env)] := by rfl) : WI X (.Tuple elts kk tpos) (.Call (.Name "enumerate" p) [c] [] pos) ρ m Ki := by
  intro fr σ H o R g
  refine le_I (pi_enum (gl_of a hg) (by rw [a.mt]; exact hm) (pa_cons wpE_pe pa_nil (by rw [hs]; rfl)) hs) ?_
  refine h.to o fun A m1 v H1 ⟨As, ea, q⟩ x1 o1 r1 => ?_
  subst ea
  obtain ⟨p1, xs, rfl, t1, ra⟩ := r1
  refine ⟨p1, xs, rfl, t1.sq, g _ m1 _ H1 q x1 o1 ?_⟩
  have w := walk_enum (K := X.K) (a := p1) (xs := xs)
  have hl : (enumA As).length = xs.length := by unfold enumA; rw [pairA_len, List.length_map, List.length_range, ra.length]; omega
  refine ⟨fun i M H3 hi xt => w.goes i H3 (by rw [hl] at hi; exact hi) (t1.st xt).sq, fun M H3 xt => ?_, fun i M H3 y H4 hi xt hM hy => ?_⟩
  · rw [hl]; exact w.stops H3 (t1.st xt).sq
  · rw [hl] at hi
    obtain ⟨T, x, z, e1, e2, e3, e4, e5⟩ := w.yields i H3 y H4 hi (t1.st xt).sq hy
    subst e1 e3
    have ri : AllV X.K (Ms fr m1) H1 ((List.range As.length).map fun (i : Nat) => int (i : Int)) ((List.range As.length).map fun (i : Nat) => V.int (i : Int)) := by
      generalize List.range As.length = l
      induction l with
      | nil => exact .nil
      | cons z l ih => exact .cons rfl ih
    have e4' : V.int (i : Nat) = x := Option.some.inj e4
    exact ⟨.inr ⟨T, _, e2, rfl⟩, pair_yld ri ra xt e2 hM (by rw [← e4', ra.length]; simp [hi]) e5⟩
/-! ### comprehensions -/
include a in
theorem blk_at {s : Shared} {H : Hp} {scope : Scope} {cl : List (Str × Addr)} {C : Addr} {fp : List Addr} : At P w K mg base N (relS scope sc) false k (X.blk s H scope (compEnvC scope cl C X.env) fp) := by
  have hsc : (compEnvC scope cl C X.env).scope = relS scope X.env.scope := rfl
  exact ⟨a.prog, a.wd, a.kt, a.mt, a.bas, a.nm, by show (compEnvC scope cl C X.env).scope = _; rw [hsc, a.sce], a.calm, a.room, a.nd, (fun z => nomatch z), PassesOwn.never⟩
def BlkOf (X : Cx) (scope : Scope) (X' : Cx) : Prop := ∃ s H cl C fp, X' = X.blk s H scope (compEnvC scope cl C X.env) fp
include a in
theorem BlkOf.at_ {scope : Scope} {X' : Cx} (h : BlkOf X scope X') : At P w K mg base N (relS scope sc) false k X' := by
  obtain ⟨s, H, cl, C, fp, rfl⟩ := h
  exact blk_at a
theorem BlkOf.kt {scope : Scope} {X' : Cx} (h : BlkOf X scope X') : X'.K = X.K := by
  obtain ⟨s, H, cl, C, fp, rfl⟩ := h
  rfl
/-- one comprehension's word: W by the turn, what is made, the memory -/
def LcW (X : Cx) (scope : Scope) (elt : Expr) (tgt : Nat → AV → Rho → Rho) (ρ0 : Rho) (Is : List AV) (m1 : Mem) (Kl : KL) : Prop :=
  Is.length ≤ 1000 ∧ ∃ W : Nat → List AV → Mem → Prop, W 0 [] m1 ∧ (∀ i acc m' A, Is[i]? = some A → W i acc m' → ∀ X', BlkOf X scope X' → WE X' elt (tgt i A ρ0) m' fun B m3 => W (i + 1) (acc ++ [B]) m3) ∧ ∀ acc m', W Is.length acc m' → Kl acc m'
def teBlk (X : Cx) (scope : Scope) (elt : Expr) : TE := fun σ H Q => ∀ X', BlkOf X scope X' → wpE X' elt σ H Q
theorem teBlk_pe {scope : Scope} {elt : Expr} (s : Shared) (H : Hp) (C : Addr) (cl : List (Str × Addr)) (fp : List Addr) : PE (X.blk s H scope (compEnvC scope cl C X.env) fp) elt (teBlk X scope elt) :=
  ⟨fun pins s' σ H' Q I h => h _ ⟨s, H, cl, C, fp, rfl⟩ pins s' I⟩
/-- the reading, for a target that stores Is[i] -/
theorem lc_read {scope : Scope} {elt : Expr} {tgt : Nat → AV → Rho → Rho} {g : TG} {vs : List Nat} {fr : Frm} {σ : St} {J : It} {m1 : Mem} {H1 : Hp} {Is : List AV} {Q : VK} {D : Addr}
    (hg : ∀ (i : Nat) (A : AV) (x : V) (M : Mem) (frx : Frm) (H2 : Hp) (R : St → Hp → Prop), Is[i]? = some A → A.p X.K (Ms frx M) H2 x → EnvV X.K (Ms frx M) H2 (wipeR ρ vs) (wipe σ vs) → (∀ σ2, wipe σ2 vs = wipe σ vs → EnvV X.K (Ms frx M) H2 (tgt i A (wipeR ρ vs)) σ2 → R σ2 H2) → g x (wipe σ vs) H2 R)
    (o1 : Holds X.K fr ρ m1 σ H1) (it : IterOk X.K J (Ms fr m1) H1 Is) (hD : H1 D = none) (h : LcW X scope elt tgt (wipeR ρ vs) Is m1 Kl)
    (fin : ∀ As m' xs H', Kl As m' → Ext (Ms fr m1) H1 (Ms ((D, .lst xs) :: fr) m') H' → Holds X.K ((D, .lst xs) :: fr) ρ m' σ H' → AllV X.K (Ms ((D, .lst xs) :: fr) m') H' As xs → Q (.ref D) H') :
    ∃ W : Nat → Nat → Hp → Prop, (∃ n, W 0 n (upd H1 D (.lst []))) ∧ ∀ i n H, W i n H →
      (J.stop i H ∧ Q (.ref D) H) ∨ (J.go i H ∧ ∃ Nx : Hp → Prop, (∀ H', Nx H' → ∃ n', n' < n ∧ W (i + 1) n' H') ∧ ∀ x H', J.yld i H x H' → g x (wipe σ vs) H' fun σ2 H2 => wipe σ2 vs = wipe σ vs ∧ tYes σ2 H2 fun b H3 =>
        if b = true then teBlk X scope elt σ2 H3 fun y H4 => ∃ acc, H4 D = some (.lst acc) ∧ acc.length < sizeLine ∧ Nx (upd H4 D (.lst (acc ++ [y]))) else Nx H3) := by
  obtain ⟨hlen, W, w0, step, last⟩ := h
  let S : Nat → Hp → Prop := fun i H => i ≤ Is.length ∧ ∃ acc m' xs, W i acc m' ∧ Ext (Ms fr m1) H1 (Ms ((D, .lst xs) :: fr) m') H ∧ MemV X.K ((D, .lst xs) :: fr) m' H ∧ EnvV X.K (Ms ((D, .lst xs) :: fr) m') H ρ σ ∧ AllV X.K (Ms ((D, .lst xs) :: fr) m') H acc xs ∧ xs.length = i
  refine ⟨fun i n H => n = Is.length - i ∧ S i H, ⟨_, rfl, Nat.zero_le _, [], m1, [], w0, .push hD, o1.mem.push hD, o1.env.st (.push hD), .nil, rfl⟩, ?_⟩
  rintro i n H ⟨rfl, hi, acc, m', xs, hw, x, mv, ev, rv, hxl⟩
  by_cases hlt : i < Is.length
  · refine .inr ⟨it.go i _ _ hlt x, S (i + 1), fun H' hN => ⟨Is.length - (i + 1), by omega, rfl, hN⟩, fun y H2 hy => ?_⟩
    have hA : Is[i]? = some Is[i] := by simp [hlt]
    obtain ⟨hh, hv⟩ := it.yld i _ _ y H2 hlt x (fun b hb => mv.has hb) hy
    obtain ⟨mv2, x2⟩ := mv.ofYld hh
    refine hg i Is[i] y m' _ H2 _ hA (hv _ hA) ((ev.st x2).wipe vs) fun σ2 hs e2 => ⟨hs, ?_⟩
    simp only [tYes, if_true]
    intro X' hX'
    have hs' := step i acc m' Is[i] hA hw X' hX'
    refine hs' _ σ2 H2 ⟨by rw [hX'.kt]; exact e2, by rw [hX'.kt]; exact mv2⟩ _ fun B m3 yv H4 hW x4 o4 r4 => ?_
    rw [hX'.kt] at o4 r4
    have hD4 : H4 D = some (.lst xs) := o4.mem.frm _ _ List.mem_cons_self
    refine ⟨xs, hD4, Nat.le_of_lt_succ (Nat.lt_succ_of_lt (small1000 (by omega))), ?_⟩
    have x5 : Ext (Ms ((D, .lst xs) :: fr) m') H (Ms ((D, .lst (xs ++ [yv])) :: fr) m3) (upd H4 D (.lst (xs ++ [yv]))) := (x2.trans x4).trans .re
    exact ⟨hlt, acc ++ [B], m3, xs ++ [yv], hW, x.trans x5, o4.mem.re, ev.st x5, (rv.st x5).append (.cons (B.st r4 .re) .nil), by rw [List.length_append, hxl]; rfl⟩
  · have ei : i = Is.length := by omega
    subst ei
    refine .inl ⟨it.stop _ _ x, ?_⟩
    exact fin acc m' xs H (last acc m' hw) x ⟨ev, mv⟩ rv
theorem wipe1 {σ : St} {i : Nat} {v : Option V} : wipe ((wipe σ [i]).set i v) [i] = wipe σ [i] := by simp [wipe]
include a in
theorem wn_lc1 (j : Nat) {nm : Str} {tpos : Pos} {elt iter : Expr} {scope : Scope} (hok : blkC N sc scope [(nm, j)] = true) (hj : N[j]? = some nm) (hl : (relS scope sc).names.lookup nm = some .local)
    (h : WI X (.Name nm tpos) iter ρ m fun Is m1 => LcW X scope elt (fun _ A r => r.set j (some A)) (wipeR ρ [j]) Is m1 Kl) (hs : ∀ x, foldedSetIterable iter X.env x = pure x := by intro _; rfl) : WN X (.ListComp elt [⟨.Name nm tpos, iter, [], 0⟩] scope pos) ρ m Kl := by
  intro fr σ H o Q g
  refine le_E (pe_lc (own := [(nm, j)]) (g := gName j) (tt := tYes) a.calm (by rw [a.nm]; exact a.nd) wpI_pi (blkOk_by (by rw [a.nm, a.sce]; exact hok)) (fun s H C cl fp => pgn (blk_at a) j hj (.inl hl)) (fun _ _ _ _ _ => pts_nil) teBlk_pe hs) ?_
  refine h fr σ H o _ fun Is m1 J H1 hW x1 o1 it D hD => ?_
  refine lc_read (fun i A y M frx H2 R _ hv ev k => k _ wipe1 (ev.set hv j)) o1 it hD hW fun As m' xs H' q x2 o2 rv => ?_
  exact g As m' D xs H' q (x1.trans x2) o2 rv
include a in
/-- name = [.. for ..] on one line -/
theorem ws_lc1 (i j : Nat) {x nm : Str} {tpos py spos : Pos} {elt iter : Expr} {scope : Scope} (hk : sc.kind = .function) (hx : N[i]? = some x) (hxl : sc.names.lookup x = some .local) (hln : (py.line == pos.line) = true) (hany : (scope.names.any fun (n, k) => n == x && (k == .local || k == .cell)) = false)
    (hok : blkC N sc scope [(nm, j)] = true) (hj : N[j]? = some nm) (hl : (relS scope sc).names.lookup nm = some .local)
    (h : WI X (.Name nm tpos) iter ρ m fun Is m1 => LcW X scope elt (fun _ A r => r.set j (some A)) (wipeR ρ [j]) Is m1 fun As m2 => E.nx (ρ.set i (some (lst As))) m2) (hs : ∀ x, foldedSetIterable iter X.env x = pure x := by intro _; rfl) :
    WS X (.Assign [.Name x py] (.ListComp elt [⟨.Name nm tpos, iter, [], 0⟩] scope pos) spos) ρ m E := by
  intro fr σ H o D0 g
  refine le_S (ps_setLc (own := [(nm, j)]) (g := gName j) (tt := tYes) a.calm (by rw [a.nm]; exact a.nd) (by rw [a.nm]; exact hx) (by rw [a.sce]; exact hxl) (sw_true ?_ (by rw [a.sce]; exact hxl) hln hany) wpI_pi (blkOk_by (by rw [a.nm, a.sce]; exact hok)) (fun s H C cl fp => pgn (blk_at a) j hj (.inl hl)) (fun _ _ _ _ _ => pts_nil) teBlk_pe hs) ?_
  · rw [a.sce]; exact hk
  refine h fr σ H o _ fun Is m1 J H1 hW x1 o1 it D hD => ?_
  refine lc_read (Q := fun x H1 => D0.nx (σ.set i (some x)) H1) (g := gName j) (vs := [j]) (fun i A y M frx H2 R _ hv ev k => k _ wipe1 (ev.set hv j)) o1 it hD hW fun As m' xs H' q x2 o2 rv => ?_
  obtain ⟨o3, r3⟩ := new_lst o2 rv
  exact g.nx _ m' _ H' q (x1.trans (x2.trans .pop)) ⟨o3.env.set r3 i, o3.mem⟩
theorem wipe2 {σ : St} {i j : Nat} {u v : Option V} (h : i ≠ j) : wipe (((wipe σ [i, j]).set i u).set j v) [i, j] = wipe σ [i, j] := by
  simp only [wipe]
  rw [List.set_set, List.set_comm u none h, List.set_set, List.set_comm none none h, List.set_set]
  rw [List.set_set]
include a in
theorem wn_lc2 (i j : Nat) {nm nm2 : Str} {tpos tp1 tp2 : Pos} {ctx} {elt iter : Expr} {scope : Scope} (hok : blkC N sc scope [(nm, i), (nm2, j)] = true) (hij : i ≠ j) (hi : N[i]? = some nm) (hj : N[j]? = some nm2) (hl : (relS scope sc).names.lookup nm = some .local) (hl2 : (relS scope sc).names.lookup nm2 = some .local)
    (h : WI X (.Tuple [.Name nm tp1, .Name nm2 tp2] ctx tpos) iter ρ m fun Is m1 => ∃ Bs Cs : List AV, Is = pairA Bs Cs ∧ Is.length ≤ 1000 ∧ ∃ W : Nat → List AV → Mem → Prop, W 0 [] m1 ∧
      (∀ n acc m' B C, Bs[n]? = some B → Cs[n]? = some C → W n acc m' → ∀ X', BlkOf X scope X' → WE X' elt (((wipeR ρ [i, j]).set i (some B)).set j (some C)) m' fun Z m3 => W (n + 1) (acc ++ [Z]) m3) ∧ ∀ acc m', W (min Bs.length Cs.length) acc m' → Kl acc m')
    (hs : ∀ x, foldedSetIterable iter X.env x = pure x := by intro _; rfl) : WN X (.ListComp elt [⟨.Tuple [.Name nm tp1, .Name nm2 tp2] ctx tpos, iter, [], 0⟩] scope pos) ρ m Kl := by
  intro fr σ H o Q g
  refine le_E (pe_lc (own := [(nm, i), (nm2, j)]) (g := gTup X.K 2 (gCons (gName i) (gCons (gName j) gNil))) (tt := tYes) a.calm (by rw [a.nm]; exact a.nd) wpI_pi (blkOk_by (by rw [a.nm, a.sce]; exact hok))
    (fun s H C cl fp => pg_tup (blk_at a).calm (pgs_cons (pgn (blk_at a) i hi (.inl hl)) (pgs_cons (pgn (blk_at a) j hj (.inl hl2)) pgs_nil))) (fun _ _ _ _ _ => pts_nil) teBlk_pe hs) ?_
  refine h fr σ H o _ fun Is m1 J H1 ⟨Bs, Cs, eI, hlen, W, w0, step, last⟩ x1 o1 it D hD => ?_
  subst eI
  have hW : LcW X scope elt (fun n A r => (r.set i (Bs[n]?)).set j (Cs[n]?)) (wipeR ρ [i, j]) (pairA Bs Cs) m1 Kl := by
    refine ⟨hlen, W, w0, fun n acc m' A hA hw X' hX => ?_, fun acc m' hw => last acc m' (by rw [pairA_len] at hw; exact hw)⟩
    have hn : n < (pairA Bs Cs).length := by
      by_cases q : n < (pairA Bs Cs).length
      · exact q
      · rw [List.getElem?_eq_none (by omega)] at hA; cases hA
    rw [pairA_len] at hn
    have h1 : Bs[n]? = some (Bs[n]'(by omega)) := by simp
    have h2 : Cs[n]? = some (Cs[n]'(by omega)) := by simp
    show WE X' elt (((wipeR ρ [i, j]).set i (Bs[n]?)).set j (Cs[n]?)) m' _
    rw [h1, h2]
    exact step n acc m' _ _ h1 h2 hw X' hX
  refine lc_read (fun n A y M frx H2 R hA hv ev k => ?_) o1 it hD hW fun As m' xs H' q x2 o2 rv => ?_
  · have hn : n < (pairA Bs Cs).length := by
      by_cases q : n < (pairA Bs Cs).length
      · exact q
      · rw [List.getElem?_eq_none (by omega)] at hA; cases hA
    rw [pairA_len] at hn
    have h1 : Bs[n]? = some (Bs[n]'(by omega)) := by simp
    have h2 : Cs[n]? = some (Cs[n]'(by omega)) := by simp
    have e : (pairA Bs Cs)[n]? = some (tup [Bs[n]'(by omega), Cs[n]'(by omega)]) := by simp [pairA, List.getElem?_zipWith, h1, h2]
    rw [e] at hA; cases hA
    obtain ⟨p, vs, rfl, ht, hr⟩ := hv
    cases hr with
    | cons r1 t1 =>
      cases t1 with
      | cons r2 t2 =>
        cases t2
        refine ⟨p, _, rfl, ht.sq, rfl, _, _, rfl, _, _, rfl, rfl, k _ (wipe2 hij) ?_⟩
        show EnvV X.K _ H2 (((wipeR ρ [i, j]).set i (Bs[n]?)).set j (Cs[n]?)) _
        rw [h1, h2]
        exact (ev.set r1 i).set r2 j
  · exact g As m' D xs H' q (x1.trans x2) o2 rv
end
end AL
namespace AL
open PySem PySem.Spec L2
open PyProof.Rows hiding St
theorem tuple_mul1 (l : Addr) (items : Array Value) (n : Nat) (dd : Option Addr) (sl : Array (Option Value)) (x : Int) (u : Tok) (c0 : (decide (x < -(2 ^ 63)) || decide (x ≥ 2 ^ 63)) = false) (c1 : (items.isEmpty || x == 1) = true) :
    Meets (Builtin.«tuple.__mul__» ⟨[.ref l, .int x u], []⟩) (fun _ R s => s.heap.get? l = some { cls := .type "tuple", dict := dd, data := .seq items n, slots := sl } ∧
      R (.ok (.ret (Value.ref l))) s) :=
  .of_wp fun prog w A R s h => by
    obtain ⟨hp, g, d, tk, os⟩ := s
    obtain ⟨hl, h⟩ := h
    have f1 := AutoSeq1.idx_int
    wp_walk using wpAny_loadPart' hl
    repeat (first
      | (refine wpAny_ite_false (decide_eq_false (by rw [c0]; exact Bool.false_ne_true)) ?_; wp_walk using wpAny_loadPart' hl)
      | (refine wpAny_ite_true (decide_eq_true (by rw [c1])) ?_; wp_walk using wpAny_loadPart' hl))
    exact ⟨_, rfl, h⟩
theorem tuple_mul0 (l : Addr) (items : Array Value) (n : Nat) (dd : Option Addr) (sl : Array (Option Value)) (x : Int) (u : Tok) (c0 : (decide (x < -(2 ^ 63)) || decide (x ≥ 2 ^ 63)) = false) (c1 : (items.isEmpty || x == 1) = false) (c2 : (decide (x ≤ 0) || items.isEmpty) = true) :
    Meets (Builtin.«tuple.__mul__» ⟨[.ref l, .int x u], []⟩) (fun _ R s => s.heap.get? l = some { cls := .type "tuple", dict := dd, data := .seq items n, slots := sl } ∧
      R (.ok (.ret (Value.ref s.heap.objs.size))) { s with heap := s.heap.push { cls := Value.type "tuple", data := Data.seq #[] }, toks := s.toks }) :=
  .of_wp fun prog w A R s h => by
    obtain ⟨hp, g, d, tk, os⟩ := s
    obtain ⟨hl, h⟩ := h
    have f1 := AutoSeq1.idx_int
    wp_walk using wpAny_loadPart' hl
    repeat (first
      | (refine wpAny_ite_false (decide_eq_false (by rw [c0]; exact Bool.false_ne_true)) ?_; wp_walk using wpAny_loadPart' hl)
      | (refine wpAny_ite_false (decide_eq_false (by rw [c1]; exact Bool.false_ne_true)) ?_; wp_walk using wpAny_loadPart' hl)
      | (refine wpAny_ite_true (decide_eq_true (by rw [c2])) ?_; wp_walk using wpAny_loadPart' hl)
      | (refine wpAny_ite_false (decide_eq_false (Nat.not_lt.mpr (Nat.zero_le _))) ?_; wp_walk using wpAny_loadPart' hl))
    exact ⟨_, rfl, h⟩
/-- tuple * int, any number of turns -/
def rRepA (K : PySem.W.Frag) : R2 := fun x y H Q => ∃ l k xs, x = .ref l ∧ y = .int k ∧ SqT K H l xs ∧ xs ≠ [] ∧ 0 ≤ k ∧ k ≤ 1000 ∧ xs.length ≤ 1000 ∧
  (k = 1 → Q (.ref l) H) ∧ (k ≠ 1 → ∀ p, H p = none → Q (.ref p) (upd H p (.tup (List.replicate k.toNat xs).flatten)))
theorem op_repA {X : Cx} : OpR X (binaryOp .Mult) (rRepA X.K) := by
  intro pins s σ H x y v u Q I rx ry h
  obtain ⟨l, k, xs, rfl, rfl, hT, hne, h1, h2, hz, q1, q2⟩ := h
  by_cases hk2 : 2 ≤ k
  · exact op_repT pins s σ H _ _ v u Q I rx ry ⟨l, k, xs, rfl, rfl, hT, hne, hk2, h2, hz, q2 (by omega)⟩
  cases rx
  obtain ⟨t, rfl⟩ := ry
  obtain ⟨its, r, ⟨⟨cls, dd, data, sl⟩, ho, hc, n, hd⟩, hs⟩ := I.tuple hT
  simp only at hc hd
  subst hc hd
  have hle : its.length = xs.length := r.length.symm
  have hi : its.toArray.isEmpty = false := by
    cases its with
    | nil =>
      cases xs with
      | nil => exact absurd rfl hne
      | cons a b => cases hle
    | cons a b => rfl
  have c0 : (decide (k < -(2 ^ 63)) || decide (k ≥ 2 ^ 63)) = false := by
    rw [decide_eq_false (by omega), decide_eq_false (by omega)] <;> rfl
  by_cases hk1 : k = 1
  · have c1 : (its.toArray.isEmpty || k == 1) = true := by rw [hk1]; simp
    refine wpAny_binaryOp_repeat_ref (T := "tuple") (U := "int") (by decide) ⟨_, ho, rfl⟩ (fun s' => typeIs_int s' k t) noFill_tuple_mul F.fills_int_mul F.slot_int_rmul repeat_tuple F.slot_int_index.lookup
      (call_meets F.slot_int_rmul (typeIs_int s k t) F.entry_int_rmul (F.args_int_rmul_2 _ _) (int_rmul_tuple k t l its.toArray n dd sl)
        ⟨ho, rfl, ⟨_, ho, rfl⟩, call_meets F.slot_tuple_mul ⟨_, ho, rfl⟩ F.entry_tuple_mul (F.args_tuple_mul_2 _ _) (tuple_mul1 l its.toArray n dd sl k t c0 c1) ⟨ho, ?_⟩⟩)
    exact ⟨.ref l, H, I, rfl, q1 hk1⟩
  · have hk0 : k = 0 := by omega
    have c1 : (its.toArray.isEmpty || k == 1) = false := by rw [hi, hk0] <;> rfl
    have c2 : (decide (k ≤ 0) || its.toArray.isEmpty) = true := by rw [decide_eq_true (by omega)] <;> rfl
    refine wpAny_binaryOp_repeat_ref (T := "tuple") (U := "int") (by decide) ⟨_, ho, rfl⟩ (fun s' => typeIs_int s' k t) noFill_tuple_mul F.fills_int_mul F.slot_int_rmul repeat_tuple F.slot_int_index.lookup
      (call_meets F.slot_int_rmul (typeIs_int s k t) F.entry_int_rmul (F.args_int_rmul_2 _ _) (int_rmul_tuple k t l its.toArray n dd sl)
        ⟨ho, rfl, ⟨_, ho, rfl⟩, call_meets F.slot_tuple_mul ⟨_, ho, rfl⟩ F.entry_tuple_mul (F.args_tuple_mul_2 _ _) (tuple_mul0 l its.toArray n dd sl k t c0 c1 c2) ⟨ho, ?_⟩⟩)
    have q := q2 hk1
    have e : (List.replicate k.toNat xs).flatten = [] := by rw [hk0]; rfl
    rw [e] at q
    refine ⟨.ref s.heap.objs.size, _, I.laid (t' := s.toks) (o := .tup []) (fun b ob q => Heap.get?_push_of_some _ q) (Nat.le_refl _) ?_, rfl, q _ (I.hok.fresh (Nat.le_refl _))⟩
    exact ⟨Nat.zero_le _, [], .nil, IsTup.new _ _⟩
end AL
namespace AL
open PySem PySem.Spec L2
open PyProof.Rows hiding St
section
variable {P : Program} {w : World} {K : PySem.W.Frag} {mg : Str → Option Value} {base : Heap} {N : List Str} {sc : Scope} {df : Bool} {k : Nat} {X : Cx}
variable {ρ : Rho} {m : Mem} {Kt : KA} {pos : Pos} {e f : Expr} {E : EndsA} {Kl : KL} {es : List Expr} {Kb : KT}
variable (a : At P w K mg base N sc df k X)
/-! ### what reads as a sequence: a list (also one that may change), a tuple, the script -/
def IsSq (m : Mem) (A : AV) (As : List AV) : Prop := ∀ (K : PySem.W.Frag) (fr : Frm) (H : Hp) (v : V), MemV K fr m H → A.p K (Ms fr m) H v → ∃ a vs, v = .ref a ∧ (SqL K H a vs ∨ SqT K H a vs) ∧ AllV K (Ms fr m) H As vs
theorem IsLs.sq {A : AV} {As : List AV} (h : IsLs m A As) : IsSq m A As := fun K fr H v o r => by
  obtain ⟨a, vs, e, hl, q⟩ := h K fr H v o r
  exact ⟨a, vs, e, .inl (.inl (.inl hl)), q⟩
theorem isSq_lst {As : List AV} : IsSq m (lst As) As := isLs_lst.sq
theorem isSq_tup {As : List AV} : IsSq m (tup As) As := fun K fr H v o ⟨a, vs, e, h, r⟩ => ⟨a, vs, e, .inr h.sq, r⟩
theorem isSq_scr {As : List AV} : IsSq m (scr As) As := fun K fr H v o ⟨a, vs, e, h, r⟩ => ⟨a, vs, e, .inl h.sq, r⟩
/-! ### arithmetic -/
theorem we_add (h : WE X e ρ m fun A m1 => WE X f ρ m1 fun B m2 => ∃ i j, A = int i ∧ B = int j ∧ Kt (int (i + j)) m2) : WE X (.BinOp e .Add f pos) ρ m Kt :=
  we_bin op_add abs_I0 (h.mono fun A m1 h => h.mono fun B m2 ⟨i, j, e1, e2, q⟩ => ⟨i, j, e1, e2, trivial, q⟩)
theorem we_sub (h : WE X e ρ m fun A m1 => WE X f ρ m1 fun B m2 => ∃ i j, A = int i ∧ B = int j ∧ Kt (int (i - j)) m2) : WE X (.BinOp e .Sub f pos) ρ m Kt :=
  we_bin op_sub abs_I0 (h.mono fun A m1 h => h.mono fun B m2 ⟨i, j, e1, e2, q⟩ => ⟨i, j, e1, e2, trivial, q⟩)
theorem we_mul (h : WE X e ρ m fun A m1 => WE X f ρ m1 fun B m2 => ∃ i j, A = int i ∧ B = int j ∧ CMulW i j ∧ Kt (int (i * j)) m2) : WE X (.BinOp e .Mult f pos) ρ m Kt :=
  we_bin op_mulW abs_I h
theorem we_mulS (h : WE X e ρ m fun A m1 => WE X f ρ m1 fun B m2 => ∃ i j, A = int i ∧ B = int j ∧ CMul i j ∧ Kt (int (i * j)) m2) : WE X (.BinOp e .Mult f pos) ρ m Kt :=
  we_bin op_mul abs_I h
theorem we_fdiv (h : WE X e ρ m fun A m1 => WE X f ρ m1 fun B m2 => ∃ i j, A = int i ∧ B = int j ∧ CDivW i j ∧ Kt (int (i / j)) m2) : WE X (.BinOp e .FloorDiv f pos) ρ m Kt :=
  we_bin op_fdivW abs_I h
theorem we_mod (h : WE X e ρ m fun A m1 => WE X f ρ m1 fun B m2 => ∃ i j, A = int i ∧ B = int j ∧ 0 < j ∧ Kt (int (i % j)) m2) : WE X (.BinOp e .Mod f pos) ρ m Kt :=
  we_bin op_mod abs_I h
theorem we_pow (h : WE X e ρ m fun A m1 => WE X f ρ m1 fun B m2 => ∃ i j, A = int i ∧ B = int j ∧ CPow i j ∧ Kt (int (i ^ j.toNat)) m2) : WE X (.BinOp e .Pow f pos) ρ m Kt :=
  we_bin op_pow abs_I h
/-- comparisons of ints -/
theorem we_icmp {op : CmpOp} {p : Int → Int → Bool} (ho : OpR X (compareOp op) (rI0 fun i j => .bl (p i j))) (hm : behindInMarks op f = false) (h : WE X e ρ m fun A m1 => WE X f ρ m1 fun B m2 => ∃ i j, A = int i ∧ B = int j ∧ Kt (bool (p i j)) m2) : WE X (.Compare e [op] [f] pos) ρ m Kt :=
  we_cmp ho abs_I0 hm (h.mono fun A m1 h => h.mono fun B m2 ⟨i, j, e1, e2, q⟩ => ⟨i, j, e1, e2, trivial, q⟩)
theorem wt_icmp {op : CmpOp} {p : Int → Int → Bool} (ho : OpR X (compareOp op) (rI0 fun i j => .bl (p i j))) (hm : behindInMarks op f = false) (h : WE X e ρ m fun A m1 => WE X f ρ m1 fun B m2 => ∃ i j, A = int i ∧ B = int j ∧ Kb (p i j) m2) : WT X (.Compare e [op] [f] pos) ρ m Kb :=
  wt_cmp ho abs_I0 hm (h.mono fun A m1 h => h.mono fun B m2 ⟨i, j, e1, e2, q⟩ => ⟨i, j, e1, e2, trivial, _, rfl, q⟩)
/-! ### tuples -/
theorem abs_catT : AbsOp K (rCatA K) fun A B m Kt => ∃ As Bs, A = tup As ∧ B = tup Bs ∧ As.length + Bs.length ≤ 1000 ∧ Kt (tup (As ++ Bs)) m := by
  rintro A B m Kt fr ρ σ H x y Q ⟨As, Bs, rfl, rfl, hl, q⟩ o ⟨p1, xs, rfl, t1, r1⟩ ⟨p2, ys, rfl, t2, r2⟩ g
  have l1 := r1.length
  have l2 := r2.length
  refine ⟨p1, p2, xs, ys, rfl, rfl, t1.sq, t2.sq, Nat.le_of_lt (small1000 (by omega)), fun z => ?_, fun _ z => ?_, fun _ _ s hs => ?_⟩
  · subst z
    cases r1
    exact g _ m _ H q (.refl _ _) o ⟨p2, ys, rfl, t2, r2⟩
  · subst z
    cases r2
    rw [List.append_nil] at q
    exact g _ m _ H q (.refl _ _) o ⟨p1, xs, rfl, t1, r1⟩
  · exact g _ m _ _ q (.alloc hs) (o.alloc hs) ⟨s, _, rfl, at_new o.mem hs, (r1.append r2).st (.alloc hs)⟩
theorem we_tcat (h : WE X e ρ m fun A m1 => WE X f ρ m1 fun B m2 => ∃ As Bs, A = tup As ∧ B = tup Bs ∧ As.length + Bs.length ≤ 1000 ∧ Kt (tup (As ++ Bs)) m2) : WE X (.BinOp e .Add f pos) ρ m Kt :=
  we_bin op_catA abs_catT h
theorem AllV.rep {M : List Addr} {H : Hp} {As : List AV} {xs : List V} (r : AllV K M H As xs) : ∀ n : Nat, AllV K M H (List.replicate n As).flatten (List.replicate n xs).flatten
  | 0 => .nil
  | n + 1 => by
    rw [List.replicate_succ, List.replicate_succ, List.flatten_cons, List.flatten_cons]
    exact r.append (AllV.rep r n)
theorem abs_repT : AbsOp K (rRepA K) fun A B m Kt => ∃ As k, A = tup As ∧ B = int k ∧ As ≠ [] ∧ 0 ≤ k ∧ k ≤ 1000 ∧ As.length ≤ 1000 ∧ Kt (tup (List.replicate k.toNat As).flatten) m := by
  rintro A B m Kt fr ρ σ H x y Q ⟨As, k, rfl, rfl, hne, h0, h1, hl, q⟩ o ⟨p1, xs, rfl, t1, r1⟩ r2 g
  have l1 := r1.length
  refine ⟨p1, k, xs, rfl, r2, t1.sq, fun z => ?_, h0, h1, by omega, fun z => ?_, fun _ s hs => ?_⟩
  · subst z; cases r1; exact hne rfl
  · subst z
    have e : (List.replicate (1 : Int).toNat As).flatten = As := by simp
    rw [e] at q
    exact g _ m _ H q (.refl _ _) o ⟨p1, xs, rfl, t1, r1⟩
  · exact g _ m _ _ q (.alloc hs) (o.alloc hs) ⟨s, _, rfl, at_new o.mem hs, (r1.rep _).st (.alloc hs)⟩
theorem we_trep (h : WE X e ρ m fun A m1 => WE X f ρ m1 fun B m2 => ∃ As k, A = tup As ∧ B = int k ∧ As ≠ [] ∧ 0 ≤ k ∧ k ≤ 1000 ∧ As.length ≤ 1000 ∧ Kt (tup (List.replicate k.toNat As).flatten) m2) : WE X (.BinOp e .Mult f pos) ρ m Kt :=
  we_bin op_repA abs_repT h
/-! ### places -/
theorem ixN_lt {n : Nat} {i : Int} {j : Nat} (h : ixN n i = some j) : j < n := (ixN_seq h).2.1
theorem AllV.atI {M : List Addr} {H : Hp} {As : List AV} {xs : List V} (r : AllV K M H As xs) {i : Int} {A : AV} (h : L2.atI As i = some A) : ∃ v, L2.atI xs i = some v ∧ A.p K M H v := by
  unfold L2.atI at h ⊢
  rw [← r.length]
  cases e : ixN As.length i with
  | none => rw [e] at h; cases h
  | some j =>
    rw [e] at h
    exact r.get h
theorem we_ix (h : WE X e ρ m fun A m1 => WE X f ρ m1 fun B m2 => ∃ As i C, IsSq m2 A As ∧ B = int i ∧ L2.atI As i = some C ∧ Kt C m2) (hs : PlainIx f := by exact fun _ _ => rfl) : WE X (.Subscript e f pos) ρ m Kt := by
  intro fr σ H o Q g
  refine le_E (pe_ix ix_seq wpE_pe wpE_pe hs) ?_
  refine h.to o fun A m1 v H1 h1 x1 o1 r1 => h1.to o1 fun B m2 u H2 ⟨As, i, C, hA, eb, hC, q⟩ x2 o2 r2 => ?_
  subst eb
  obtain ⟨p, xs, rfl, hsq, rr⟩ := hA _ _ _ _ o2.mem (A.st r1 x2)
  obtain ⟨c, hc, pc⟩ := rr.atI hC
  have fin : Q c H2 := g C m2 c H2 q (x1.trans x2) o2 pc
  rcases hsq with hl | ht
  · exact .inl ⟨p, xs, i, c, rfl, r2, hl, hc, fin⟩
  · exact .inr (.inl ⟨p, xs, i, c, rfl, r2, ht, hc, fin⟩)
/-- a slice's part -/
def WO (X : Cx) (e : Option Expr) (ρ : Rho) (m : Mem) (Ko : Option Int → Mem → Prop) : Prop :=
  match e with
  | none => Ko none m
  | some e => WE X e ρ m fun A m1 => ∃ i, A = int i ∧ Ko (some i) m1
def cutA (As : List AV) (lo hi : Option Int) : List AV := (As.drop (HT.sIx As.length 0 lo)).take (HT.sIx As.length As.length hi - HT.sIx As.length 0 lo)
theorem AllV.cut {M : List Addr} {H : Hp} {As : List AV} {xs : List V} (r : AllV K M H As xs) (lo hi : Option Int) : AllV K M H (cutA As lo hi) (cutV xs lo hi) := by
  unfold cutA cutV
  rw [r.length]
  exact (r.drop _).take _
theorem cutA_whole {As : List AV} {lo hi : Option Int} (h : HT.sIx As.length 0 lo = 0 ∧ HT.sIx As.length As.length hi = As.length) : cutA As lo hi = As := by
  unfold cutA
  rw [h.1, h.2]
  simp
def tO (X : Cx) (x : Option Expr) : St → Hp → (Option Int → Hp → Prop) → Prop := fun σ H Q => match x with
  | none => Q none H
  | some x => wpE X x σ H fun v H1 => ∃ i, v = .int i ∧ Q (some i) H1
theorem tO_po (x : Option Expr) : PO X x (tO X x) := by
  cases x with
  | none => exact po_none
  | some x => exact po_some wpE_pe
theorem WO.to {x : Option Expr} {Ko : Option Int → Mem → Prop} (hw : WO X x ρ m Ko) {fr : Frm} {σ : St} {H : Hp} (o : Holds X.K fr ρ m σ H) {Q : Option Int → Hp → Prop}
    (k : ∀ i m' H', Ko i m' → Ext (Ms fr m) H (Ms fr m') H' → Holds X.K fr ρ m' σ H' → Q i H') : tO X x σ H Q := by
  cases x with
  | none => exact k none m H hw (.refl _ _) o
  | some x =>
    exact WE.to hw o fun A m' v H' ⟨i, ea, q⟩ x o' r => by
      subst ea
      exact ⟨i, r, k _ _ _ q x o'⟩
theorem we_tsl {lo hi : Option Expr} {p2 : Pos} (h : WE X e ρ m fun A m1 => WO X lo ρ m1 fun l m2 => WO X hi ρ m2 fun u m3 => ∃ As, A = tup As ∧ Kt (tup (cutA As l u)) m3) : WE X (.Subscript e (.Slice lo hi none p2) pos) ρ m Kt := by
  intro fr σ H o Q g
  refine le_E (pe_slice sl_tupA wpE_pe (tO_po lo) (tO_po hi)) ?_
  refine h.to o fun A m1 v H1 h1 x1 o1 r1 => WO.to h1 o1 fun l m2 H2 h2 x2 o2 => WO.to h2 o2 fun u m3 H3 ⟨As, ea, q⟩ x3 o3 => ?_
  subst ea
  obtain ⟨p, xs, rfl, t, rr⟩ := (tup As).st r1 (x2.trans x3)
  refine ⟨p, xs, rfl, t.sq, fun hw => ?_, fun hw s hs => ?_⟩
  · rw [← rr.length] at hw
    rw [cutA_whole hw] at q
    exact g _ m3 _ H3 q ((x1.trans x2).trans x3) o3 ⟨p, xs, rfl, t, rr⟩
  · exact g _ m3 _ _ q (((x1.trans x2).trans x3).trans (.alloc hs)) (o3.alloc hs) ⟨s, _, rfl, at_new o3.mem hs, (rr.cut l u).st (.alloc hs)⟩
/-! ### fields -/
theorem we_fld {fl : Str} (h : WE X e ρ m fun A m1 => ∃ C fs B, A = ins C fs ∧ L2.Cls X.K C ∧ NoAttr X.K C fl ∧ fs.lookup fl = some B ∧ Kt B m1) (hb : attributeBase e fl X.env (eval e X.env) = eval e X.env := by rfl) : WE X (.Attribute e fl pos) ρ m Kt := by
  intro fr σ H o Q g
  refine le_E (pe_fld wpE_pe hb) ?_
  refine h.to o fun A m1 v H1 ⟨C, fs, B, ea, cl, na, hB, q⟩ x1 o1 r1 => ?_
  subst ea
  obtain ⟨p, dx, vs, rfl, hp, np, rr⟩ := r1
  obtain ⟨b, hb', pb⟩ := rr.get hB
  exact ⟨p, C, dx, vs, b, rfl, hp, cl, na, hb', g _ m1 _ H1 q x1 o1 pb⟩
/-! ### built-ins -/
abbrev KCl := List AV → Mem → KA → Prop
def AbsCall (K : PySem.W.Frag) (r : List V → Hp → VK → Prop) (R : KCl) : Prop :=
  ∀ (As : List AV) (m : Mem) (Kt : KA) (fr : Frm) (ρ : Rho) (σ : St) (H : Hp) (vs : List V) (Q : VK), R As m Kt → Holds K fr ρ m σ H → AllV K (Ms fr m) H As vs → Got K fr ρ m σ H Kt Q → r vs H Q
theorem callRun {r : List V → Hp → VK → Prop} {R : KCl} (hr : AbsCall X.K r R) (h : WA X es ρ m fun As m1 => R As m1 Kt) {fr : Frm} {σ : St} {H : Hp} (o : Holds X.K fr ρ m σ H) {Q : VK} (g : Got X.K fr ρ m σ H Kt Q) : tCB r (wpA X es) σ H Q :=
  h fr σ H o _ fun As m1 vs H1 q x1 o1 r1 => hr As m1 Kt fr ρ σ H1 vs Q q o1 r1 (g.from x1)
include a in
theorem we_callB {x : Str} {p : Pos} {id : String} {r : List V → Hp → VK → Prop} {R : KCl} (hc : CallR X (.builtin id) r) (hr : AbsCall X.K r R) (hg : sc.names.lookup x = some .globalImplicit) (hm : mg x = none) (hv : bootBuiltins x = some (.builtin id))
    (h : WA X (e :: es) ρ m fun As m1 => R As m1 Kt) (hn : x ≠ "__name__" := by decide) (hdb : (x == ("__debug__" : Str)) = false := by decide)
    (he : starEach (e :: es) X.env = (false, eval e X.env) :: starEach es X.env := by rfl) (hpl : (backTo pos (starEach es X.env)).any (·.1) = false := by rfl) : WE X (.Call (.Name x p) (e :: es) [] pos) ρ m Kt :=
  fun fr σ H o Q g => le_E (pe_callB hc (gl_of a hg) (by rw [a.mt]; exact hm) hv wpA_pa hn hdb he hpl) (callRun hr h o g)
include a in
theorem we_callTy {x : Str} {p : Pos} {T : String} {r : List V → Hp → VK → Prop} {R : KCl} (hc : CallR X (.type T) r) (hr : AbsCall X.K r R) (hg : sc.names.lookup x = some .globalImplicit) (hm : mg x = none) (hv : bootBuiltins x = some (.type T))
    (h : WA X (e :: es) ρ m fun As m1 => R As m1 Kt) (hn : x ≠ "__name__" := by decide) (hdb : (x == ("__debug__" : Str)) = false := by decide)
    (he : starEach (e :: es) X.env = (false, eval e X.env) :: starEach es X.env := by rfl) (hpl : (backTo pos (starEach es X.env)).any (·.1) = false := by rfl) : WE X (.Call (.Name x p) (e :: es) [] pos) ρ m Kt :=
  fun fr σ H o Q g => le_E (pe_callTy hc (gl_of a hg) (by rw [a.mt]; exact hm) hv wpA_pa hn hdb he hpl) (callRun hr h o g)
include a in
theorem we_callG {x : Str} {p : Pos} {id : String} {r : List V → Hp → VK → Prop} {R : KCl} (hc : CallR X (.builtin id) r) (hr : AbsCall X.K r R) (hg : sc.names.lookup x = some .globalImplicit) (hm : mg x = some (.builtin id))
    (h : WA X (e :: es) ρ m fun As m1 => R As m1 Kt) (hdb : (x == ("__debug__" : Str)) = false := by decide)
    (he : starEach (e :: es) X.env = (false, eval e X.env) :: starEach es X.env := by rfl) (hpl : (backTo pos (starEach es X.env)).any (·.1) = false := by rfl) : WE X (.Call (.Name x p) (e :: es) [] pos) ρ m Kt :=
  fun fr σ H o Q g => le_E (pe_callBfun hc (gl_of a hg) (by rw [a.mt]; exact hm) wpA_pa hdb he hpl) (callRun hr h o g)
theorem abs_len : AbsCall K (fun xs H Q => ∃ p ys, xs = [V.ref p] ∧ (SqL K H p ys ∨ SqT K H p ys) ∧ Q (.int ys.length) H) fun As m Kt => ∃ A Bs, As = [A] ∧ IsSq m A Bs ∧ Kt (int Bs.length) m := by
  rintro As m Kt fr ρ σ H vs Q ⟨A, Bs, rfl, hs, q⟩ o r g
  cases r with
  | cons r t =>
    cases t
    obtain ⟨p, ys, rfl, h, rr⟩ := hs _ _ _ _ o.mem r
    exact ⟨p, ys, rfl, h, g _ m _ H q (.refl _ _) o (by rw [rr.length]; rfl)⟩
theorem abs_abs : AbsCall K (fun xs H Q => ∃ i, xs = [V.int i] ∧ Q (.int (if i < 0 then -i else i)) H) fun As m Kt => ∃ i, As = [int i] ∧ Kt (int (if i < 0 then -i else i)) m := by
  rintro As m Kt fr ρ σ H vs Q ⟨i, rfl, q⟩ o r g
  cases r with
  | cons r t =>
    cases t
    exact ⟨i, by rw [show _ = V.int i from r], g _ m _ H q (.refl _ _) o rfl⟩
theorem abs_int : AbsCall K (fun xs H Q => (∃ i, xs = [V.int i] ∧ Q (.int i) H) ∨ ∃ k, xs = [V.bl k] ∧ Q (.int (if k then 1 else 0)) H) fun As m Kt => (∃ i, As = [int i] ∧ Kt (int i) m) ∨ ∃ b, As = [bool b] ∧ Kt (int (if b then 1 else 0)) m := by
  rintro As m Kt fr ρ σ H vs Q hh o r g
  rcases hh with ⟨i, rfl, q⟩ | ⟨b, rfl, q⟩
  · cases r with
    | cons r t =>
      cases t
      exact .inl ⟨i, by rw [show _ = V.int i from r], g _ m _ H q (.refl _ _) o rfl⟩
  · cases r with
    | cons r t =>
      cases t
      exact .inr ⟨b, by rw [show _ = V.bl b from r], g _ m _ H q (.refl _ _) o rfl⟩
theorem abs_gcd : AbsCall K rGcd fun As m Kt => ∃ i j, As = [int i, int j] ∧ Kt (int ((Nat.gcd i.natAbs j.natAbs : Nat) : Int)) m := by
  rintro As m Kt fr ρ σ H vs Q ⟨i, j, rfl, q⟩ o r g
  cases r with
  | cons r t =>
    cases t with
    | cons r2 t2 =>
      cases t2
      exact ⟨i, j, by rw [show _ = V.int i from r, show _ = V.int j from r2], g _ m _ H q (.refl _ _) o rfl⟩
theorem allV_bools {M : List Addr} {H : Hp} : ∀ {bs : List Bool} {vs : List V}, AllV K M H (bs.map bool) vs → vs = bs.map V.bl
  | [], _, .nil => rfl
  | b :: bs, _, .cons r t => by rw [List.map_cons, allV_bools t, show _ = V.bl b from r]
theorem abs_all : AbsCall K (rAll K) fun As m Kt => ∃ bs : List Bool, As = [lst (bs.map bool)] ∧ Kt (bool (bs.all id)) m := by
  rintro As m Kt fr ρ σ H vs Q ⟨bs, rfl, q⟩ o r g
  cases r with
  | cons r t =>
    cases t
    obtain ⟨p, ys, rfl, h, rr⟩ := r
    rw [allV_bools rr] at h
    exact ⟨p, bs, rfl, h.sq, g _ m _ H q (.refl _ _) o rfl⟩
theorem abs_any : AbsCall K (rAny K) fun As m Kt => ∃ bs : List Bool, As = [lst (bs.map bool)] ∧ Kt (bool (bs.any id)) m := by
  rintro As m Kt fr ρ σ H vs Q ⟨bs, rfl, q⟩ o r g
  cases r with
  | cons r t =>
    cases t
    obtain ⟨p, ys, rfl, h, rr⟩ := r
    rw [allV_bools rr] at h
    exact ⟨p, bs, rfl, h.sq, g _ m _ H q (.refl _ _) o rfl⟩
theorem abs_tupleOf : AbsCall K (fun xs H Q => ∃ p ys, xs = [V.ref p] ∧ ((SqL K H p ys ∧ ∀ l, H l = none → Q (.ref l) (upd H l (.tup ys))) ∨ (SqT K H p ys ∧ Q (.ref p) H))) fun As m Kt => (∃ A Bs, As = [A] ∧ IsLs m A Bs ∧ Kt (tup Bs) m) ∨ ∃ Bs, As = [tup Bs] ∧ Kt (tup Bs) m := by
  rintro As m Kt fr ρ σ H vs Q hh o r g
  rcases hh with ⟨A, Bs, rfl, hs, q⟩ | ⟨Bs, rfl, q⟩
  · cases r with
    | cons r t =>
      cases t
      obtain ⟨p, ys, rfl, h, rr⟩ := hs _ _ _ _ o.mem r
      exact ⟨p, ys, rfl, .inl ⟨.inl (.inl h), fun l hl => g _ m _ _ q (.alloc hl) (o.alloc hl) ⟨l, _, rfl, at_new o.mem hl, rr.st (.alloc hl)⟩⟩⟩
  · cases r with
    | cons r t =>
      cases t
      obtain ⟨p, ys, rfl, h, rr⟩ := r
      exact ⟨p, ys, rfl, .inr ⟨h.sq, g _ m _ H q (.refl _ _) o ⟨p, ys, rfl, h, rr⟩⟩⟩
/-- equality of data -/
def IsDat (m : Mem) (A : AV) (d : PyData) : Prop := ∀ (K : PySem.W.Frag) (fr : Frm) (H : Hp) (v : V), MemV K fr m H → A.p K (Ms fr m) H v → Dp K H v d
theorem isDat_int {n : Int} : IsDat m (int n) (.int n) := fun K fr H v _ e => by rw [show v = V.int n from e]; exact .int n
theorem isDat_bool {n : Bool} : IsDat m (bool n) (.bool n) := fun K fr H v _ e => by rw [show v = V.bl n from e]; exact .bl n
theorem isDat_non : IsDat m non .none := fun K fr H v _ e => by rw [show v = V.non from e]; exact .non
theorem isDat_str {n : Str} : IsDat m (str n) (.str n) := fun K fr H v _ e => by rw [show v = V.str n from e]; exact .str n
abbrev AllDat (m : Mem) : List AV → List PyData → Prop := Paired fun A d => IsDat m A d
theorem AllDat.dp {fr : Frm} {H : Hp} (o : MemV K fr m H) : ∀ {As : List AV} {ds : List PyData} {vs : List V}, AllDat m As ds → AllV K (Ms fr m) H As vs → DpAll K H vs ds
  | _, _, _, .nil, .nil => .nil
  | _, _, _, .cons h t, .cons r q => .cons (h _ _ _ _ o r) (AllDat.dp o t q)
theorem isDat_tup {As : List AV} {ds : List PyData} (h : AllDat m As ds) : IsDat m (tup As) (.tuple ds) := fun K fr H v o ⟨p, vs, e, t, r⟩ => by
  subst e
  exact .tup t.sq (h.dp o r)
theorem isDat_ls {A : AV} {As : List AV} {ds : List PyData} (hl : IsLs m A As) (h : AllDat m As ds) : IsDat m A (.list ds) := fun K fr H v o r => by
  obtain ⟨p, vs, e, t, r'⟩ := hl _ _ _ _ o r
  subst e
  exact .lst (.inl (.inl t)) (h.dp o r')
theorem abs_eqD : AbsOp K (rEqD K) fun A B m Kt => ∃ d d', IsDat m A d ∧ IsDat m B d' ∧ SeqAt.shaped d = true ∧ SeqAt.shaped d' = true ∧ Kt (bool (PyData.eqv d d')) m := by
  rintro A B m Kt fr ρ σ H x y Q ⟨d, d', hA, hB, s1, s2, q⟩ o rx ry g
  exact ⟨d, d', hA _ _ _ _ o.mem rx, hB _ _ _ _ o.mem ry, s1, s2, g _ m _ H q (.refl _ _) o rfl⟩
theorem abs_neD : AbsOp K (rNeD K) fun A B m Kt => ∃ d d', IsDat m A d ∧ IsDat m B d' ∧ SeqAt.shaped d = true ∧ SeqAt.shaped d' = true ∧ Kt (bool (!PyData.eqv d d')) m := by
  rintro A B m Kt fr ρ σ H x y Q ⟨d, d', hA, hB, s1, s2, q⟩ o rx ry g
  exact ⟨d, d', hA _ _ _ _ o.mem rx, hB _ _ _ _ o.mem ry, s1, s2, g _ m _ H q (.refl _ _) o rfl⟩
end
end AL
namespace AL
open PySem PySem.Spec L2
open PyProof.Rows hiding St
/-- what a def is worth: its arguments, the memory that it sees, what is wanted of its value -/
abbrev CT := List AV → Mem → KA → Prop
def spOf (K : PySem.W.Frag) (C : CT) : Sp := fun vs H Q _ => ∃ fr As m Kt, C As m Kt ∧ MemV K fr m H ∧ AllV K (Ms fr m) H As vs ∧
  ∀ A m' v H', Kt A m' → Ext (Ms fr m) H (Ms fr m') H' → MemV K fr m' H' → A.p K (Ms fr m') H' v → Q v H'
/-- a def of the module -/
def FnC (P : Program) (w : World) (K : PySem.W.Frag) (mg : Str → Option Value) (base : Heap) (j : Nat) (x : Str) (C : CT) : Prop :=
  ∃ f fd ps, FnOk P w K mg base CX0 j f fd ps (spOf K C) ∧ mg x = some (.ref f) ∧ PySem.W.keepIn K (.ref f) = true ∧ Binds K fd ps []
theorem FnC.mono {P : Program} {w : World} {K : PySem.W.Frag} {mg : Str → Option Value} {base : Heap} {i j : Nat} {x : Str} {C : CT} (h : FnC P w K mg base i x C) (hj : i ≤ j) : FnC P w K mg base j x C := by
  obtain ⟨f, fd, ps, h1, h2⟩ := h
  exact ⟨f, fd, ps, h1.mono hj, h2⟩
/-- back from locals -/
def Conv (A : AV) (m : Mem) (B : AV) (m' : Mem) : Prop := ∀ (K : PySem.W.Frag) (fr : Frm) (H : Hp) (v : V), MemV K fr m H → A.p K (Ms fr m) H v → B.p K (Ms fr m') H v
theorem conv_drop {A : AV} {m loc : Mem} : Conv A (m ++ loc) A m := fun K fr H v _ r => A.st r (.same fun x z => by
  unfold Ms at *
  rw [List.map_append]
  rcases List.mem_append.mp z with z | z
  · exact List.mem_append_left _ z
  · exact List.mem_append_right _ (List.mem_append_left _ z))
theorem conv_same {A : AV} {m : Mem} : Conv A m A m := fun K fr H v _ r => r
theorem MemV.drop {K : PySem.W.Frag} {fr : Frm} {m loc : Mem} {H : Hp} (o : MemV K fr (m ++ loc) H) : MemV K fr m H ∧ Ext (Ms fr (m ++ loc)) H (Ms fr m) H := by
  have x : Ext (Ms fr (m ++ loc)) H (Ms fr m) H := .same fun x z => by
    unfold Ms at *
    rw [List.map_append]
    rcases List.mem_append.mp z with z | z
    · exact List.mem_append_left _ z
    · exact List.mem_append_right _ (List.mem_append_left _ z)
  refine ⟨⟨o.frm, fun b As z => ?_, ?_⟩, x⟩
  · obtain ⟨vs, e, r⟩ := o.at_ b As (List.mem_append_left _ z)
    exact ⟨vs, e, r.st x⟩
  · have nd := o.nd
    unfold Ms at nd ⊢
    rw [List.map_append, ← List.append_assoc] at nd
    exact (List.nodup_append.mp nd).1
theorem conv_mut {q : Addr} {As : List AV} {m loc : Mem} (h : (q, .l As) ∈ loc) : Conv (val (.ref q)) (m ++ loc) (lst As) m := fun K fr H v o r => by
  obtain ⟨u, e, rr⟩ := o.at_ q _ (List.mem_append_right _ h)
  obtain ⟨vs, rfl, rr⟩ := rr.lst
  obtain ⟨_, x⟩ := o.drop
  refine ⟨q, vs, r, ⟨e, fun z => ?_⟩, rr.st x⟩
  have nd := o.nd
  unfold Ms at nd z
  rw [List.map_append, ← List.append_assoc] at nd
  exact (List.nodup_append.mp nd).2.2 q z q (List.mem_map.mpr ⟨_, h, rfl⟩) rfl
def startR (N : List Str) (As : List AV) : Rho := As.map some ++ List.replicate (N.length - As.length) none
section
variable {P : Program} {w : World} {K : PySem.W.Frag} {mg : Str → Option Value} {base : Heap} {N : List Str} {sc : Scope} {df : Bool} {k : Nat} {X : Cx}
variable {ρ : Rho} {m : Mem} {Kt : KA} {pos : Pos} {e f : Expr} {E : EndsA} {Kl : KL} {es : List Expr} {Kb : KT}
theorem startV {fr : Frm} {H : Hp} {As : List AV} {vs : List V} (r : AllV K (Ms fr m) H As vs) : EnvV K (Ms fr m) H (startR N As) (L2.start N vs) := by
  have h2 : ∀ n : Nat, EnvV K (Ms fr m) H (List.replicate n none) (List.replicate n none) := fun n => by
    induction n with
    | zero => exact .nil
    | succ n ih => exact .cons trivial ih
  have h1 : ∀ {As : List AV} {vs : List V}, AllV K (Ms fr m) H As vs → ∀ n : Nat, EnvV K (Ms fr m) H (As.map some ++ List.replicate n none) (vs.map some ++ List.replicate n none) := fun {As vs} r n => by
    induction r with
    | nil => exact h2 n
    | cons h t ih => exact .cons h ih
  have q := h1 r (N.length - As.length)
  unfold startR L2.start
  rw [← r.length]
  exact q
/-- what is wanted behind a body -/
def bodyE (Kt : KA) : EndsA where
  nx := fun _ m' => ∃ mr loc, m' = mr ++ loc ∧ Kt non mr
  rt := fun A m' => ∃ B mr loc, m' = mr ++ loc ∧ Conv A m' B mr ∧ Kt B mr
theorem bodyE.ret {A : AV} {Kt : KA} {m : Mem} (h : Kt A m) : (bodyE Kt).rt A m := ⟨A, m, [], by simp, conv_same, h⟩
/-- THE RULE for a def -/
theorem fnOk {x qual : Str} {st : Stmt} {f : Addr} {fd : FuncData} {ps : List Str} {j : Nat} {C : CT} (F : Fun K x qual st f fd) (S : FnScope N ps (defScope st))
    (len : ∀ As m Kt, C As m Kt → As.length = ps.length)
    (body : ∀ X, At P w K mg base N (defScope st) true j X → ∀ As m Kt, C As m Kt → WSs X (defBody st) (startR N As) m (bodyE Kt)) : FnOk P w K mg base CX0 (j + 1) f fd ps (spOf K C) := by
  refine F.ok S (fun vs H Q E ⟨fr, As, m, Kt, hc, _, r, _⟩ => by rw [← r.length]; exact len As m Kt hc) (fun cdv A outer s H vs Q E hr h => ?_)
  obtain ⟨fr, As, m, Kt, hc, mv, r, g⟩ := h
  refine ⟨_, wpSs_pss, ?_⟩
  refine body _ ⟨rfl, rfl, rfl, rfl, rfl, rfl, rfl, rfl, hr, S.nd, fun _ _ => rfl, PassesOwn.never⟩ As m Kt hc fr _ H ⟨startV r, mv⟩ _ ⟨fun ρ' m' σ' H' ⟨mr, loc, e, q⟩ x o => ?_, fun A m' v H' ⟨B, mr, loc, e, cv, q⟩ x o r' => ?_, fun ρ' m' σ' H' q x o => q.elim, fun ρ' m' σ' H' q x o => q.elim⟩
  · subst e
    obtain ⟨mv', x'⟩ := o.mem.drop
    exact g non mr .non H' q (x.trans x') mv' rfl
  · subst e
    obtain ⟨mv', x'⟩ := o.drop
    exact g B mr v H' q (x.trans x') mv' (cv K fr H' v o r')
theorem fnC {x qual : Str} {st : Stmt} {f : Addr} {fd : FuncData} {ps : List Str} {j : Nat} {C : CT} (F : Fun K x qual st f fd) (S : FnScope N ps (defScope st)) (hm : mg x = some (.ref f)) (hb : Binds K fd ps [])
    (len : ∀ As m Kt, C As m Kt → As.length = ps.length)
    (body : ∀ X, At P w K mg base N (defScope st) true j X → ∀ As m Kt, C As m Kt → WSs X (defBody st) (startR N As) m (bodyE Kt)) : FnC P w K mg base (j + 1) x C :=
  ⟨f, fd, ps, fnOk F S len body, hm, F.kp, hb⟩
/-- a method of the class at C -/
def MethC (P : Program) (w : World) (K : PySem.W.Frag) (mg : Str → Option Value) (base : Heap) (j : Nat) (C : Addr) (name : Str) (Cn : CT) : Prop :=
  ∃ g fd ps, PySem.W.findIn K (.ref C) name = some (some (.ref g)) ∧ PySem.W.isFn K (.ref g) = true ∧ L2.Binds K fd ps [] ∧ FnOk P w K mg base CX0 j g fd ps (spOf K Cn)
theorem call_lenOwn {C g : Addr} {fd : FuncData} {ps : List Str} {sp : Sp} {j : Nat} (hl : PySem.W.findIn X.K (.ref C) "__len__" = some (some (.ref g))) (hf : PySem.W.isFn X.K (.ref g) = true) (hb : L2.Binds X.K fd ps []) (F : FnOk X.prog X.w X.K X.mg X.base CX0 j g fd ps sp) (hr : Room (j + 1) X.A) :
    CallR X (.builtin "len") (fun xs H Q => ∃ a dx fs, xs = [V.ref a] ∧ H a = some (.ins C dx fs) ∧ sp [.ref a] H (fun v H' => ∃ n : Int, v = .int n ∧ 0 ≤ n ∧ n < 2 ^ 63 ∧ Q (.int n) H') E0) := by
  intro pins s σ H xs us Q I r h
  obtain ⟨p, dx, fs, rfl, hp, hs⟩ := h
  obtain ⟨u, rfl, ru⟩ := r.one
  obtain rfl : u = Value.ref p := ru
  obtain ⟨mA, O, _⟩ := ins_get I.hok hp
  obtain ⟨od, J, _⟩ := O.look
  obtain ⟨fm, hfr⟩ := I.fr
  have lenq : ([Value.ref p] ++ []).length = ps.length := (F.len _ _ _ _ hs)
  refine PySem.W.len_K hfr I.ok.mod.kin J hl hf (wpAny_call (codeAny_mono (F.run X.A.in1 X.stack s H ⟨[.ref p], []⟩ [.ref p] [.ref p] _ E0 hr.in1 I.env0.in1 (hb s [.ref p] I.kIn lenq) (.cons rfl .nil) hs) fun res s' hq => ?_))
  cases res with
  | error er => exact hq.elim
  | ok fl =>
    cases fl with
    | ret u =>
      obtain ⟨v, H', I3, rv, n, en, h0, h1, q3⟩ := I.after hq
      subst en
      obtain ⟨t, rfl⟩ := rv
      exact ⟨⟨h0, h1⟩, .int n, H', I3.tok _, ⟨_, rfl⟩, q3⟩
    | next => exact hq.elim
    | brk => exact hq.elim
    | cont => exact hq.elim
variable (a : At P w K mg base N sc df k X)
/-- f(..) -/
theorem call_sp {C : CT} {fr : Frm} {H1 : Hp} {As : List AV} {vs : List V} {mc mf : Mem} {σ : St} {Q : VK} (hC : C As mc fun A mc' => Kt A (mc' ++ mf)) (o1 : Holds K fr ρ (mc ++ mf) σ H1) (r1 : AllV K (Ms fr (mc ++ mf)) H1 As vs) (g : Got K fr ρ (mc ++ mf) σ H1 Kt Q) (E' : XK) : spOf K C vs H1 Q E' := by
  obtain ⟨gf, e1, mv, back⟩ := o1.mem.call
  have hmm := split_ms (fr := fr) (m1 := mc) e1
  refine ⟨gf ++ fr, As, mc, _, hC, mv, r1.st (.same fun x z => (hmm x).mp z), fun A mc' v H' k x mv' r' => ?_⟩
  have hm' := split_ms (fr := fr) (m1 := mc') e1
  have x' : Ext (Ms fr (mc ++ mf)) H1 (Ms fr (mc' ++ mf)) H' := ((Ext.same fun x z => (hmm x).mp z).trans x).trans (.same fun x z => (hm' x).mpr z)
  exact g A (mc' ++ mf) v H' k x' ⟨o1.env.st x', back mc' H' x mv'⟩ (A.st r' (.same fun x z => (hm' x).mpr z))
include a in
theorem we_call {j : Nat} {x : Str} {p : Pos} {C : CT} (F : FnC P w K mg base j x C) (hj : j ≤ k) (hg : sc.names.lookup x = some .globalImplicit) (h : WA X (e :: es) ρ m fun As m1 => ∃ mc mf, m1 = mc ++ mf ∧ C As mc fun A mc' => Kt A (mc' ++ mf))
    (hdb : (x == ("__debug__" : Str)) = false := by decide) (he : starEach (e :: es) X.env = (false, eval e X.env) :: starEach es X.env := by rfl) (hpl : (backTo pos (starEach es X.env)).any (·.1) = false := by rfl) : WE X (.Call (.Name x p) (e :: es) [] pos) ρ m Kt := by
  intro fr σ H o Q g
  obtain ⟨f, fd, ps, F, hm, hk, hb⟩ := F
  have hr := a.room.mono hj
  obtain ⟨rfl, rfl, rfl, rfl, rfl, _⟩ := a
  refine le_E (pe_call (E := E0) F hr (by show X.env.scope.names.lookup x = _; simp_all) hm hk hb .nil pass0 wpA_pa hdb he hpl) ?_
  refine h fr σ H o _ fun As m1 vs H1 ⟨mc, mf, e1, hC⟩ x1 o1 r1 => ?_
  subst e1
  rw [List.append_nil]
  exact call_sp hC o1 r1 (g.from x1) _
/-! ### one's own classes -/
/-- a class: what its attributes are when it is made of such arguments -/
abbrev KF := List (Str × AV) → Prop
def C_init (C : Addr) (R : List AV → KF → Prop) : CT := fun As m Kt => ∃ q Bs, As = val (.ref q) :: Bs ∧ m = [(q, .i C [])] ∧ R Bs fun fs => Kt non [(q, .i C fs)]
structure ClsC (P : Program) (w : World) (K : PySem.W.Frag) (mg : Str → Option Value) (base : Heap) (j : Nat) (x : Str) (C : Addr) (R : List AV → KF → Prop) : Prop where
  cls : L2.Cls K C
  mgC : mg x = some (.ref C)
  mono : ∀ As k k', R As k → (∀ fs, k fs → k' fs) → R As k'
  make : ∃ f fd ps, L2.Mk K C f ∧ L2.Binds K fd ps [] ∧ FnOk P w K mg base CX0 j f fd ps (spOf K (C_init C R))
include a in
theorem we_make {j : Nat} {x : Str} {p : Pos} {C : Addr} {R : List AV → KF → Prop} (F : ClsC P w K mg base j x C R) (hj : j + 1 ≤ k) (hg : sc.names.lookup x = some .globalImplicit)
    (h : WA X (e :: es) ρ m fun As m1 => R As fun fs => Kt (ins C fs) m1)
    (hdb : (x == ("__debug__" : Str)) = false := by decide) (he : starEach (e :: es) X.env = (false, eval e X.env) :: starEach es X.env := by rfl) (hpl : (backTo pos (starEach es X.env)).any (·.1) = false := by rfl) : WE X (.Call (.Name x p) (e :: es) [] pos) ρ m Kt := by
  intro fr σ H o Q g
  have hm := F.mgC
  have Fmono := F.mono
  obtain ⟨f, fd, ps, M, hb, F⟩ := F.make
  have hr := a.room.mono hj
  obtain ⟨rfl, rfl, rfl, rfl, rfl, _⟩ := a
  refine le_E (pe_make (E := E0) M F hr (by show X.env.scope.names.lookup x = _; simp_all) hm hb .nil pass0 wpA_pa hdb he hpl) ?_
  refine h fr σ H o _ fun As m1 vs H1 hR x1 o1 r1 => ?_
  intro xa dx hx hdx hne
  rw [List.append_nil]
  obtain ⟨gf, e1, mv, back⟩ := MemV.call (m1 := []) (m2 := m1) o1.mem
  have hmm := split_ms (fr := fr) (m1 := []) e1
  have mv1 : MemV X.K (gf ++ fr) [] (upd H1 dx (.own xa)) := mv.alloc hdx
  have hx' : upd H1 dx (.own xa) xa = none := by rw [upd_ne hne.symm]; exact hx
  have mv2 := mv1.push (o := .ins C dx []) hx'
  have xa1 : Ext (Ms (gf ++ fr) []) H1 (Ms ((xa, .ins C dx []) :: (gf ++ fr)) []) (upd (upd H1 dx (.own xa)) xa (.ins C dx [])) := (Ext.alloc hdx).trans (.push hx')
  have same : ∀ c z, z ∈ Ms (gf ++ fr) [(xa, c)] ↔ z ∈ Ms ((xa, HO.ins C dx []) :: (gf ++ fr)) [] := fun c z => by
    unfold Ms
    simp only [List.map_cons, List.map_nil, List.append_nil, List.mem_append, List.mem_cons, List.not_mem_nil, or_false]
    exact or_comm
  have nx := (List.nodup_cons.mp mv2.nd).1
  have mv3 : MemV X.K (gf ++ fr) [(xa, .i C [])] (upd (upd H1 dx (.own xa)) xa (.ins C dx [])) := by
    refine ⟨fun b v z => mv2.frm b v (List.mem_cons_of_mem _ z), fun b c z => ?_, ?_⟩
    · rw [List.mem_singleton] at z
      cases z
      exact ⟨_, upd_same, rfl, .nil⟩
    · have nd : ((gf ++ fr).map (·.1)).Nodup := by simpa [Ms] using (List.nodup_cons.mp mv2.nd).2
      have nx : xa ∉ (gf ++ fr).map (·.1) := by simpa [Ms] using nx
      exact List.nodup_append.mpr ⟨nd, by simp, fun y hy z hz => by
        rw [List.map_cons, List.map_nil, List.mem_singleton] at hz
        subst hz
        intro ee
        subst ee
        exact nx hy⟩
  refine ⟨gf ++ fr, val (.ref xa) :: As, [(xa, .i C [])], fun A m' => A = non ∧ ∃ fs, m' = [(xa, .i C fs)] ∧ Kt (ins C fs) m1, ⟨xa, As, rfl, rfl, Fmono As _ _ hR fun fs kk => ⟨rfl, fs, rfl, kk⟩⟩, mv3, .cons rfl (((r1.st (.same fun x z => (hmm x).mp z)).st xa1).st (.same fun z hz => (same _ z).mp hz)), fun A m' v H' kk x2 mv4 rv => ?_⟩
  obtain ⟨rfl, fs, rfl, kk⟩ := kk
  refine ⟨rv, ?_⟩
  obtain ⟨u, hu, ru⟩ := mv4.at_ xa (.i C fs) (by simp)
  obtain ⟨dx', fv, rfl, ru2⟩ := ru.ins
  have nx' : xa ∉ Ms (gf ++ fr) [] := (List.nodup_cons.mp mv2.nd).1
  have x5 : Ext (Ms (gf ++ fr) [(xa, .i C fs)]) H' (Ms (gf ++ fr) []) H' := .same fun z hz => by
    unfold Ms at hz ⊢
    rw [List.map_nil, List.append_nil] at hz
    exact List.mem_append_left _ hz
  have x3 : Ext (Ms (gf ++ fr) []) H1 (Ms (gf ++ fr) []) H' := ((xa1.trans (.same fun z hz => (same _ z).mp hz)).trans x2).trans x5
  have x4 : Ext (Ms fr m1) H1 (Ms fr m1) H' := ((Ext.same fun x z => (hmm x).mp z).trans x3).trans (.same fun x z => (hmm x).mpr z)
  have mv5 : MemV X.K (gf ++ fr) [] H' := ⟨mv4.frm, fun b c z => absurd z (by simp), by
    have nd := mv4.nd
    unfold Ms at nd ⊢
    exact (List.nodup_append.mp nd).1 |> fun q => by simpa using q⟩
  refine g _ m1 _ H' kk (x1.trans x4) ⟨o1.env.st x4, back [] H' x3 mv5⟩ ⟨xa, dx', fv, rfl, hu, fun z => nx' ((hmm xa).mpr z), FieldsV.st ru2 (x5.trans (.same fun x z => (hmm x).mpr z))⟩
end
end AL
namespace AL
open PySem PySem.Spec L2
open PyProof.Rows hiding St
section
variable {P : Program} {w : World} {K : PySem.W.Frag} {mg : Str → Option Value} {base : Heap} {N : List Str} {sc : Scope} {df : Bool} {k : Nat} {X : Cx}
variable {ρ : Rho} {m : Mem} {Kt : KA} {pos : Pos} {e f : Expr} {E : EndsA} {Kl : KL} {es : List Expr} {Kb : KT}
variable (a : At P w K mg base N sc df k X)
/-! ### what changes -/
theorem ms_re {fr : Frm} {m1 m2 : Mem} {q : Addr} {c c' : Cell} : Ms fr (m1 ++ (q, c) :: m2) = Ms fr (m1 ++ (q, c') :: m2) := by
  unfold Ms; simp
theorem in_ms {fr : Frm} {m1 m2 : Mem} {q : Addr} {c : Cell} : q ∈ Ms fr (m1 ++ (q, c) :: m2) := by
  unfold Ms; simp
theorem re_ext {fr : Frm} {m1 m2 : Mem} {q : Addr} {c c' : Cell} {H : Hp} {u' : HO} : Ext (Ms fr (m1 ++ (q, c) :: m2)) H (Ms fr (m1 ++ (q, c') :: m2)) (upd H q u') := by
  rw [ms_re (c := c') (c' := c)]
  exact .store in_ms
theorem MemV.rewrite {fr : Frm} {m1 m2 : Mem} {q : Addr} {c c' : Cell} {H : Hp} {u' : HO} (o : MemV K fr (m1 ++ (q, c) :: m2) H) (h : CellO K (Ms fr (m1 ++ (q, c) :: m2)) H c' u') : MemV K fr (m1 ++ (q, c') :: m2) (upd H q u') := by
  have x : Ext (Ms fr (m1 ++ (q, c) :: m2)) H (Ms fr (m1 ++ (q, c') :: m2)) (upd H q u') := re_ext
  have nd := o.nd
  have nd' := nd
  rw [ms_re (c := c) (c' := c')] at nd'
  have hq : q ∉ fr.map (·.1) ∧ q ∉ m1.map (·.1) ∧ q ∉ m2.map (·.1) := by
    unfold Ms at nd
    rw [List.map_append, List.map_cons] at nd
    have h1 := List.nodup_append.mp nd
    have h2 := List.nodup_append.mp h1.2.1
    have h3 := List.nodup_cons.mp h2.2.1
    refine ⟨fun z => h1.2.2 q z q (by simp) rfl, fun z => h2.2.2 q z q (by simp) rfl, h3.1⟩
  refine ⟨fun b v z => ?_, fun b d z => ?_, nd'⟩
  · have e := o.frm b v z
    rw [upd_ne (fun y => hq.1 (by rw [← y]; exact List.mem_map.mpr ⟨_, z, rfl⟩))]; exact e
  · rcases List.mem_append.mp z with z | z
    · obtain ⟨v, e, r⟩ := o.at_ b d (List.mem_append_left _ z)
      exact ⟨v, by rw [upd_ne (fun y => hq.2.1 (by rw [← y]; exact List.mem_map.mpr ⟨_, z, rfl⟩))]; exact e, r.st x⟩
    · rcases List.mem_cons.mp z with z | z
      · cases z
        exact ⟨u', upd_same, h.st x⟩
      · obtain ⟨v, e, r⟩ := o.at_ b d (List.mem_append_right _ (List.mem_cons_of_mem _ z))
        exact ⟨v, by rw [upd_ne (fun y => hq.2.2 (by rw [← y]; exact List.mem_map.mpr ⟨_, z, rfl⟩))]; exact e, r.st x⟩
include a in
/-- name = a new list that is to be changed -/
theorem ws_new (i : Nat) {x : Str} {pos' : Pos} (hN : N[i]? = some x) (hl : sc.names.lookup x = some .local ∨ (df = true ∧ sc.names.lookup x = some .cell)) (h : WN X e ρ m fun As m1 => ∀ q, E.nx (ρ.set i (some (val (.ref q)))) (m1 ++ [(q, .l As)]))
    (hs : swapsWith e (some (.Name x pos')) pos.line X.env = pure false := by rfl) : WS X (.Assign [.Name x pos'] e pos) ρ m E := by
  intro fr σ H o D g
  refine le_S (ps_set (i := i) (by rw [a.nm]; exact a.nd) (by rw [a.nm]; exact hN) ?_ wpE_pe hs ?_) ?_
  · unfold L2.Loc
    rw [a.sce]
    rcases hl with h | h
    · exact .inl h
    · exact .inr h.2
  · rcases hl with h | h
    · exact .inr (by rw [a.sce]; exact h)
    · exact .inl (a.fnc h.1 x)
  refine h fr σ H o _ fun As m' q vs H' k x1 o' r => ?_
  have hms : ∀ z, z ∈ Ms fr (m' ++ [(q, .l As)]) ↔ z ∈ Ms ((q, .lst vs) :: fr) m' := fun z => by
    unfold Ms
    simp only [List.map_append, List.map_cons, List.map_nil, List.mem_append, List.mem_cons, List.not_mem_nil, or_false]
    constructor
    · rintro (h | h | h)
      · exact .inl (.inr h)
      · exact .inr h
      · exact .inl (.inl h)
    · rintro ((h | h) | h)
      · exact .inr (.inr h)
      · exact .inl h
      · exact .inr (.inl h)
  have xs : Ext (Ms ((q, .lst vs) :: fr) m') H' (Ms fr (m' ++ [(q, .l As)])) H' := .same fun z hz => (hms z).mp hz
  have nq := (List.nodup_cons.mp o'.mem.nd).1
  refine g.nx _ _ _ H' (k q) (x1.trans xs) ⟨(o'.env.st xs).set rfl i, ⟨fun b v z => o'.mem.frm b v (List.mem_cons_of_mem _ z), fun b c z => ?_, nd_snoc (List.nodup_cons.mp o'.mem.nd).2 nq⟩⟩
  rcases List.mem_append.mp z with z | z
  · obtain ⟨v, e, r'⟩ := o'.mem.at_ b c z
    exact ⟨v, e, r'.st xs⟩
  · rw [List.mem_singleton] at z
    cases z
    exact ⟨_, o'.mem.frm _ _ List.mem_cons_self, AllV.st r xs⟩
theorem FieldsV.snoc {M : List Addr} {H : Hp} {fl : Str} {B : AV} {b : V} (hb : B.p K M H b) : ∀ {fs : List (Str × AV)} {vs : List (Str × V)}, FieldsV K M H fs vs → FieldsV K M H (fs ++ [(fl, B)]) (vs ++ [(fl, b)])
  | _, _, .nil => .cons ⟨rfl, hb⟩ .nil
  | _, _, .cons r t => .cons r (FieldsV.snoc hb t)
theorem putF_new {M : List Addr} {H : Hp} {fl : Str} {b : V} : ∀ {fs : List (Str × AV)} {vs : List (Str × V)}, FieldsV K M H fs vs → fs.lookup fl = none → putF fl b vs = vs ++ [(fl, b)]
  | _, _, .nil, _ => rfl
  | (g, B) :: fs, (g', v) :: vs, .cons r t, e => by
    obtain ⟨r1, _⟩ := r
    simp only at r1
    subst r1
    rw [List.lookup_cons] at e
    cases q : fl == g with
    | true => rw [q] at e; cases e
    | false =>
      rw [q] at e
      have ne : fl ≠ g := by simpa using q
      unfold putF
      simp [ne, ne.symm, putF_new t e]
/-- xs[i] = v -/
theorem ws_store {o i : Expr} {spos : Pos} (h : WE X e ρ m fun B m1 => WE X o ρ m1 fun A m2 => WE X i ρ m2 fun I m3 => ∃ q As m4 m5 n j, A = val (.ref q) ∧ I = int n ∧ m3 = m4 ++ (q, .l As) :: m5 ∧ ixN As.length n = some j ∧ E.nx ρ (m4 ++ (q, .l (As.set j B)) :: m5)) {ppos : Pos}
    (hs : swapsWithSole [.Subscript o i ppos] e spos.line X.env = pure false := by rfl) (hw : swappedStores [.Subscript o i ppos] e X.env = pure none := by rfl) (h1 : (assignEach [.Subscript o i ppos] X.env).map (·.2) = [assign (.Subscript o i ppos) X.env] := by rfl)
    (ha : ∀ v, assign (.Subscript o i ppos) X.env v = (do
      let ov ← holding [v] (eval o X.env)
      let iv ← holding [v, ov] (eval i X.env)
      standAt ppos
      holding [v, ov, iv] (setItem ov iv v)
      release [v, ov, iv] []) := by intro _; rfl) :
    WS X (.Assign [.Subscript o i ppos] e spos) ρ m E := by
  intro fr σ H hh D g
  refine le_S (ps_asg wpE_pe (pg_sub wpE_pe wpE_pe set_list ha) hs hw h1) ?_
  refine h.to hh fun B m1 b H1 h1 x1 o1 r1 => h1.to o1 fun A m2 v H2 h2 x2 o2 r2 => h2.to o2 fun I m3 iv H3 ⟨q, As, m4, m5, n, j, ea, ei, em, hj, hn⟩ x3 o3 r3 => ?_
  subst ea ei em
  have r2' : v = V.ref q := r2
  have r3' : iv = V.int n := r3
  subst r2' r3'
  obtain ⟨u, e1, rr⟩ := o3.mem.at_ q (.l As) (by simp)
  obtain ⟨vs, rfl, rr⟩ := rr.lst
  refine ⟨q, vs, n, j, rfl, rfl, e1, by rw [← rr.length]; exact hj, ?_⟩
  exact g.nx _ _ _ _ hn (((x1.trans x2).trans x3).trans re_ext) ⟨o3.env.st re_ext, o3.mem.rewrite (show CellO X.K _ H3 (.l (As.set j B)) (.lst (vs.set j b)) from AllV.set (B.st r1 (x2.trans x3)) j rr)⟩
/-- o.f = v of an instance that is being made -/
theorem ws_fld {o : Expr} {fl : Str} {p' : Pos} (h : WE X e ρ m fun B m1 => WE X o ρ m1 fun A m2 => ∃ q C fs m4 m5, A = val (.ref q) ∧ m2 = m4 ++ (q, .i C fs) :: m5 ∧ L2.Cls X.K C ∧ NoAttr X.K C fl ∧ fs.length < 1000 ∧ fs.lookup fl = none ∧ E.nx ρ (m4 ++ (q, .i C (fs ++ [(fl, B)])) :: m5))
    (hs : swapsWith e (some (.Attribute o fl p')) pos.line X.env = pure false := by rfl) : WS X (.Assign [.Attribute o fl p'] e pos) ρ m E := by
  intro fr σ H hh D g
  refine le_S (ps_fld wpE_pe wpE_pe hs) ?_
  refine h.to hh fun B m1 b H1 h1 x1 o1 r1 => h1.to o1 fun A m2 v H2 ⟨q, C, fs, m4, m5, ea, em, cl, na, hl, hlk, hn⟩ x2 o2 r2 => ?_
  subst ea em
  have r2' : v = V.ref q := r2
  subst r2'
  obtain ⟨u, e1, rr⟩ := o2.mem.at_ q (.i C fs) (by simp)
  obtain ⟨dx, vs, rfl, rr2⟩ := rr.ins
  have hl2 : fs.length = vs.length := Paired.length rr2
  have pf : putF fl b vs = vs ++ [(fl, b)] := putF_new rr2 hlk
  refine ⟨q, C, dx, vs, rfl, e1, cl, na, by omega, ?_⟩
  rw [pf]
  exact g.nx _ _ _ _ hn ((x1.trans x2).trans re_ext) ⟨o2.env.st re_ext, o2.mem.rewrite (show CellO X.K _ H2 (.i C (fs ++ [(fl, B)])) (.ins C dx (vs ++ [(fl, b)])) from ⟨rfl, FieldsV.snoc (B.st r1 x2) rr2⟩)⟩
/-- xs.append(e) -/
theorem we_append {o : Expr} {apos : Pos} (h : WE X o ρ m fun A m1 => ∃ q As1 m6 m7, A = val (.ref q) ∧ m1 = m6 ++ (q, .l As1) :: m7 ∧ WE X e ρ m1 fun B m2 => ∃ As m4 m5, m2 = m4 ++ (q, .l As) :: m5 ∧ As.length < 1000 ∧ Kt non (m4 ++ (q, .l (As ++ [B])) :: m5))
    (hbase : attributeBase o "append" X.env (eval o X.env) = eval o X.env := by rfl)
    (hfew : ((backTo pos (starEach (e :: []) X.env)).all (fun x => !x.1) && (backToKw pos (keywordEach [] X.env)).all (fun x => x.1.isSome)
      && decide ((e :: ([] : List Expr)).length + ([] : List Keyword).length + (if ([] : List Keyword).isEmpty then 0 else 1) < 30)) = true := by rfl)
    (hline : (apos.endLine == pos.line) = true := by rfl) (hs : starEach (e :: []) X.env = (false, eval e X.env) :: starEach [] X.env := by rfl) (hplain : (backTo pos (starEach [] X.env)).any (·.1) = false := by rfl) :
    WE X (.Call (.Attribute o "append" apos) [e] [] pos) ρ m Kt := by
  intro fr σ H hh Q g
  refine le_E (pe_bm PySem.F.plainAttrs_list PySem.F.slot_list_append PySem.F.type_list_append mt_append wpE_pe (pa_cons wpE_pe pa_nil hs) hbase hfew hline hs hplain) ?_
  refine h.to hh fun A m1 v H1 ⟨q, As1, m6, m7, ea, em1, h1⟩ x1 o1 r1 => ?_
  subst ea em1
  have r1' : v = V.ref q := r1
  subst r1'
  obtain ⟨u0, e0, rr0⟩ := o1.mem.at_ q (.l As1) (by simp)
  obtain ⟨vs0, rfl, rr0⟩ := rr0.lst
  refine ⟨.inl ⟨rfl, _, .inl (.inl e0)⟩, ?_⟩
  refine h1.to o1 fun B m2 b H2 ⟨As, m4, m5, em, hl, k⟩ x2 o2 r2 => ?_
  subst em
  obtain ⟨u, e1, rr⟩ := o2.mem.at_ q (.l As) (by simp)
  obtain ⟨vs, rfl, rr⟩ := rr.lst
  refine ⟨q, vs, b, rfl, rfl, e1, by rw [← rr.length]; exact small1000 (by omega), ?_⟩
  exact g _ _ _ _ k ((x1.trans x2).trans re_ext) ⟨o2.env.st re_ext, o2.mem.rewrite (show CellO X.K _ H2 (.l (As ++ [B])) (.lst (vs ++ [b])) from AllV.append rr (.cons r2 .nil))⟩ rfl
end
end AL
namespace AL
open PySem PySem.Spec L2
open PyProof.Rows hiding St
section
variable {P : Program} {w : World} {K : PySem.W.Frag} {mg : Str → Option Value} {base : Heap} {N : List Str} {sc : Scope} {df : Bool} {k : Nat} {X : Cx}
variable {ρ : Rho} {m : Mem} {Kt : KA} {pos : Pos} {e f : Expr} {E : EndsA}
/-- x += e of ints -/
theorem ws_augI (a : At P w K mg base N sc df k X) (i : Nat) {x : Str} {px : Pos} {n : Int} (hN : N[i]? = some x) (hl : sc.names.lookup x = some .local ∨ (df = true ∧ sc.names.lookup x = some .cell)) (hA : ρ[i]? = some (some (int n))) (h : WE X e ρ m fun B m1 => ∃ y, B = int y ∧ E.nx (ρ.set i (some (int (n + y)))) m1) : WS X (.AugAssign (.Name x px) .Add e pos) ρ m E := by
  intro fr σ H o D g
  refine le_S (ps_aug (i := i) (by rw [a.nm]; exact a.nd) (by rw [a.nm]; exact hN) ?_ wpE_pe ip_add ?_) ?_
  · unfold L2.Loc
    rw [a.sce]
    rcases hl with h | h
    · exact .inl h
    · exact .inr h.2
  · rcases hl with h | h
    · exact .inr (by rw [a.sce]; exact h)
    · exact .inl (a.fnc h.1 x)
  obtain ⟨v, e1, r⟩ := o.env.get hA
  refine ⟨v, e1, h.to o fun B m' b H' ⟨y, eb, q⟩ x1 o' r' => ?_⟩
  subst eb
  exact ⟨n, y, r, r', g.nx _ m' _ H' q x1 ⟨o'.env.set rfl i, o'.mem⟩⟩
end
end AL
namespace AL
open PySem PySem.Spec L2
open PyProof.Rows hiding St
section
variable {P : Program} {w : World} {K : PySem.W.Frag} {mg : Str → Option Value} {base : Heap} {N : List Str} {sc : Scope} {df : Bool} {k : Nat} {X : Cx}
variable {ρ : Rho} {m : Mem} {Kt : KA} {pos : Pos} {e f : Expr} {E : EndsA} {Kl : KL} {es : List Expr} {Kb : KT}
theorem op_eqI : OpR X (compareOp .Eq) (rI0 fun i j => .bl (decide (i = j))) := opB0 fun i j t u s Q E h => PyProof.Rows.eq_int (by rw [Bool.beq_eq_decide_eq]; exact h)
theorem op_neI : OpR X (compareOp .NotEq) (rI0 fun i j => .bl (!decide (i = j))) := opB0 fun i j t u s Q E h => PyProof.Rows.ne_int (by rw [bne, Bool.beq_eq_decide_eq]; exact h)
theorem hu_at (a : At P w K mg base N sc df k X) : X.A.units + 64 < cLine := by
  have := a.room.un
  omega
/-- what a value's type is -/
def HasTy (A : AV) (t : String) : Prop := ∀ (K : PySem.W.Frag) (M : List Addr) (H : Hp) (v : V), A.p K M H v → TyX K H v (.type t)
theorem ty_int {n : Int} : HasTy (int n) "int" := fun K M H v e => by rw [show v = V.int n from e]; exact .base (.int n)
theorem ty_bool {n : Bool} : HasTy (bool n) "bool" := fun K M H v e => by rw [show v = V.bl n from e]; exact .base (.bl n)
theorem ty_str {n : Str} : HasTy (str n) "str" := fun K M H v e => by rw [show v = V.str n from e]; exact .base (.str n)
theorem ty_non : HasTy non "NoneType" := fun K M H v e => by rw [show v = V.non from e]; exact .base .non
theorem ty_lst {As : List AV} : HasTy (lst As) "list" := fun K M H v ⟨p, vs, e, h, _⟩ => by rw [e]; exact .base (.lst h.1)
theorem ty_tup {As : List AV} : HasTy (tup As) "tuple" := fun K M H v ⟨p, vs, e, h, _⟩ => by
  subst e
  rcases h with ⟨h, _⟩ | ⟨o, its, n, h1, h2, _⟩
  · exact .base (.tup h)
  · exact .kTuple h1 h2
variable (a : At P w K mg base N sc df k X)
include a in
theorem b_isinstance {p : Pos} {c : Expr} (hg : sc.names.lookup ("isinstance" : Str) = some .globalImplicit) (hm : mg "isinstance" = none)
    (h : WA X [e, c] ρ m fun As m1 => (∃ A t T b, As = [A, val (.ty T)] ∧ HasTy A t ∧ kitB t T = some b ∧ Kt (bool b) m1) ∨ ∃ A t T1 T2 b1 b2, As = [A, tup [val (.ty T1), val (.ty T2)]] ∧ HasTy A t ∧ kitB t T1 = some b1 ∧ kitB t T2 = some b2 ∧ Kt (bool (b1 || b2)) m1)
    (he : starEach (e :: [c]) X.env = (false, eval e X.env) :: starEach [c] X.env := by rfl) (hpl : (backTo pos (starEach [c] X.env)).any (·.1) = false := by rfl) : WE X (.Call (.Name "isinstance" p) [e, c] [] pos) ρ m Kt := by
  intro fr σ H o Q g
  have hgl := gl_of a hg
  have hmm : X.mg "isinstance" = none := by rw [a.mt]; exact hm
  have hc : CallR X (.builtin "isinstance") (fun xs H Q => rIsi X.K xs H Q ∨ rIsiT X.K xs H Q ∨ rIsiK X.K xs H Q) := fun pins s σ H xs us Q I r q => q.elim (call_isi pins s σ H xs us Q I r) fun q => q.elim (call_isiT pins s σ H xs us Q I r) (call_isiK pins s σ H xs us Q I r)
  refine le_E (pe_callB hc hgl hmm (by decide +kernel) wpA_pa (by decide) (by decide) he hpl) ?_
  refine h fr σ H o _ fun As m1 vs H1 hh x1 o1 r1 => ?_
  rcases hh with ⟨A, t, T, b, rfl, ht, hk, q⟩ | ⟨A, t, T1, T2, b1, b2, rfl, ht, h1, h2, q⟩
  · cases r1 with
    | cons ra r1 =>
      cases r1 with
      | cons rb r1 =>
        cases r1
        refine .inl ⟨_, _, _, .type T, b, rfl, ?_, ht _ _ _ _ ra, kit_ty hk, g _ m1 _ H1 q x1 o1 rfl⟩
        rw [show _ = V.ty T from rb]
        exact .ty T
  · cases r1 with
    | cons ra r1 =>
      cases r1 with
      | cons rb r1 =>
        cases r1
        obtain ⟨p2, ts, rfl, ht2, rr⟩ := rb
        have et : ts = [V.ty T1, V.ty T2] := by
          cases rr with
          | cons rx rr =>
            cases rr with
            | cons ry rr =>
              cases rr
              rw [show _ = V.ty T1 from rx, show _ = V.ty T2 from ry]
        subst et
        have kk : PySem.W.kitAny X.K (.type t) [.type T1, .type T2] = some (b1 || b2) := kitAny_cons (kit_ty h1) (fun e => by subst e; exact kitAny_cons (kit_ty h2) (fun e => by subst e; exact kitAny_nil) (fun e => by subst e; rfl)) (fun e => by subst e; rfl)
        have fin := g _ m1 _ H1 q x1 o1 (show (bool (b1 || b2)).p X.K (Ms fr m1) H1 (.bl (b1 || b2)) from rfl)
        rcases ht2 with ⟨ht2, _⟩ | ⟨ob, its, n, l1, l2, l3, l4, l5⟩
        · exact .inr (.inl ⟨_, p2, _, .type t, [.type T1, .type T2], _, rfl, ht2, .cons (.ty T1) (.cons (.ty T2) .nil), ht _ _ _ _ ra, kk, fin⟩)
        · have ei : its.toList = [.type T1, .type T2] := by
            generalize its.toList = l at l5
            cases l5 with
            | cons u1 l5 =>
              cases l5 with
              | cons u2 l5 =>
                cases l5
                rw [show _ = Value.type T1 from u1, show _ = Value.type T2 from u2]
          obtain ⟨cls, dd, data, sl⟩ := ob
          simp only at l2 l3
          subst l2 l3
          have e2 : its = ([.type T1, .type T2] : List Value).toArray := by rw [← ei]
          exact .inr (.inr ⟨_, p2, dd, [.type T1, .type T2], n, sl, .type t, _, rfl, by rw [l1, e2], ht _ _ _ _ ra, kk, fin⟩)
/-- the built-in names of a module -/
structure Blt (mg : Str → Option Value) : Prop where
  isi : mg "isinstance" = none
  len : mg "len" = none
  int : mg "int" = none
  bool : mg "bool" = none
  tuple : mg "tuple" = none
  list : mg "list" = none
  str : mg "str" = none
  all : mg "all" = none
  any : mg "any" = none
  abs : mg "abs" = none
  range : mg "range" = none
  zip : mg "zip" = none
  gcd : mg "gcd" = some (.builtin "math.gcd")
variable (Z : Blt mg)
include a Z in
theorem g_int {p : Pos} (hg : sc.names.lookup ("int" : Str) = some .globalImplicit) (h : Kt (val (.ty "int")) m) : WE X (.Name "int" p) ρ m Kt := we_bltn (v := .ty "int") (u := .type "int") a hg Z.int (by decide +kernel) rfl h
include a Z in
theorem g_bool {p : Pos} (hg : sc.names.lookup ("bool" : Str) = some .globalImplicit) (h : Kt (val (.ty "bool")) m) : WE X (.Name "bool" p) ρ m Kt := we_bltn (v := .ty "bool") (u := .type "bool") a hg Z.bool (by decide +kernel) rfl h
include a Z in
theorem g_tuple {p : Pos} (hg : sc.names.lookup ("tuple" : Str) = some .globalImplicit) (h : Kt (val (.ty "tuple")) m) : WE X (.Name "tuple" p) ρ m Kt := we_bltn (v := .ty "tuple") (u := .type "tuple") a hg Z.tuple (by decide +kernel) rfl h
include a Z in
theorem g_list {p : Pos} (hg : sc.names.lookup ("list" : Str) = some .globalImplicit) (h : Kt (val (.ty "list")) m) : WE X (.Name "list" p) ρ m Kt := we_bltn (v := .ty "list") (u := .type "list") a hg Z.list (by decide +kernel) rfl h
include a Z in
theorem b_len {p : Pos} (hg : sc.names.lookup ("len" : Str) = some .globalImplicit) (h : WA X [e] ρ m fun As m1 => ∃ A Bs, As = [A] ∧ IsSq m1 A Bs ∧ Kt (int Bs.length) m1) (he : starEach (e :: []) X.env = (false, eval e X.env) :: starEach [] X.env := by rfl) (hpl : (backTo pos (starEach [] X.env)).any (·.1) = false := by rfl) : WE X (.Call (.Name "len" p) [e] [] pos) ρ m Kt :=
  we_callB a call_len_seq abs_len hg Z.len PySem.boot_len h (by decide) (by decide) he hpl
include a Z in
theorem b_abs {p : Pos} (hg : sc.names.lookup ("abs" : Str) = some .globalImplicit) (h : WA X [e] ρ m fun As m1 => ∃ i, As = [int i] ∧ Kt (int (if i < 0 then -i else i)) m1) (he : starEach (e :: []) X.env = (false, eval e X.env) :: starEach [] X.env := by rfl) (hpl : (backTo pos (starEach [] X.env)).any (·.1) = false := by rfl) : WE X (.Call (.Name "abs" p) [e] [] pos) ρ m Kt :=
  we_callB a call_abs abs_abs hg Z.abs (by decide +kernel) h (by decide) (by decide) he hpl
include a Z in
theorem b_int {p : Pos} (hg : sc.names.lookup ("int" : Str) = some .globalImplicit) (h : WA X [e] ρ m fun As m1 => (∃ i, As = [int i] ∧ Kt (int i) m1) ∨ ∃ b, As = [bool b] ∧ Kt (int (if b then 1 else 0)) m1) (he : starEach (e :: []) X.env = (false, eval e X.env) :: starEach [] X.env := by rfl) (hpl : (backTo pos (starEach [] X.env)).any (·.1) = false := by rfl) : WE X (.Call (.Name "int" p) [e] [] pos) ρ m Kt :=
  we_callTy a call_int1 abs_int hg Z.int (by decide +kernel) h (by decide) (by decide) he hpl
include a Z in
theorem b_gcd {p : Pos} (hg : sc.names.lookup ("gcd" : Str) = some .globalImplicit) (h : WA X [e, f] ρ m fun As m1 => ∃ i j, As = [int i, int j] ∧ Kt (int ((Nat.gcd i.natAbs j.natAbs : Nat) : Int)) m1) (he : starEach (e :: [f]) X.env = (false, eval e X.env) :: starEach [f] X.env := by rfl) (hpl : (backTo pos (starEach [f] X.env)).any (·.1) = false := by rfl) : WE X (.Call (.Name "gcd" p) [e, f] [] pos) ρ m Kt :=
  we_callG a cr_gcd abs_gcd hg Z.gcd h (by decide) he hpl
include a Z in
theorem b_all {p : Pos} (hg : sc.names.lookup ("all" : Str) = some .globalImplicit) (h : WA X [e] ρ m fun As m1 => ∃ bs : List Bool, As = [lst (bs.map bool)] ∧ Kt (AL.bool (bs.all id)) m1) (he : starEach (e :: []) X.env = (false, eval e X.env) :: starEach [] X.env := by rfl) (hpl : (backTo pos (starEach [] X.env)).any (·.1) = false := by rfl) : WE X (.Call (.Name "all" p) [e] [] pos) ρ m Kt :=
  we_callB a (cr_all a.calm) abs_all hg Z.all (by decide +kernel) h (by decide) (by decide) he hpl
include a Z in
theorem b_any {p : Pos} (hg : sc.names.lookup ("any" : Str) = some .globalImplicit) (h : WA X [e] ρ m fun As m1 => ∃ bs : List Bool, As = [lst (bs.map bool)] ∧ Kt (AL.bool (bs.any id)) m1) (he : starEach (e :: []) X.env = (false, eval e X.env) :: starEach [] X.env := by rfl) (hpl : (backTo pos (starEach [] X.env)).any (·.1) = false := by rfl) : WE X (.Call (.Name "any" p) [e] [] pos) ρ m Kt :=
  we_callB a (cr_any a.calm) abs_any hg Z.any (by decide +kernel) h (by decide) (by decide) he hpl
include a Z in
theorem b_tuple {p : Pos} (hg : sc.names.lookup ("tuple" : Str) = some .globalImplicit) (h : WA X [e] ρ m fun As m1 => (∃ A Bs, As = [A] ∧ IsLs m1 A Bs ∧ Kt (tup Bs) m1) ∨ ∃ Bs, As = [tup Bs] ∧ Kt (tup Bs) m1) (he : starEach (e :: []) X.env = (false, eval e X.env) :: starEach [] X.env := by rfl) (hpl : (backTo pos (starEach [] X.env)).any (·.1) = false := by rfl) : WE X (.Call (.Name "tuple" p) [e] [] pos) ρ m Kt :=
  we_callTy a call_tuple_of abs_tupleOf hg Z.tuple (by decide +kernel) h (by decide) (by decide) he hpl
end
end AL
namespace AL
open PySem PySem.Spec L2
open PyProof.Rows hiding St
section
variable {K : PySem.W.Frag}
/-! ### lists: together, again and again, a part, a copy, how many -/
theorem abs_lcat : AbsOp K rCat fun A B m Kt => ∃ As Bs, IsLs m A As ∧ IsLs m B Bs ∧ As.length + Bs.length ≤ 1000 ∧ Kt (lst (As ++ Bs)) m := by
  rintro A B m Kt fr ρ σ H x y Q ⟨As, Bs, hA, hB, hl, q⟩ o r1 r2 g
  obtain ⟨p1, xs, rfl, t1, r1⟩ := hA _ _ _ _ o.mem r1
  obtain ⟨p2, ys, rfl, t2, r2⟩ := hB _ _ _ _ o.mem r2
  have l1 := r1.length
  have l2 := r2.length
  refine ⟨p1, p2, xs, ys, rfl, rfl, t1, t2, Nat.le_of_lt (small1000 (by omega)), fun s hs => ?_⟩
  exact g _ m _ _ q (.alloc hs) (o.alloc hs) ⟨s, _, rfl, at_newL o.mem hs, (r1.append r2).st (.alloc hs)⟩
theorem abs_lrep : AbsOp K rRep fun A B m Kt => ∃ As k, IsLs m A As ∧ B = int k ∧ 0 ≤ k ∧ k ≤ 1000 ∧ As.length * k.toNat ≤ 1000 ∧ Kt (lst (List.replicate k.toNat As).flatten) m := by
  rintro A B m Kt fr ρ σ H x y Q ⟨As, k, hA, rfl, h0, h1, hl, q⟩ o r1 r2 g
  obtain ⟨p1, xs, rfl, t1, r1⟩ := hA _ _ _ _ o.mem r1
  have l1 := r1.length
  refine ⟨p1, k, xs, rfl, r2, t1, by omega, by omega, Nat.le_of_lt (small1000 (by rw [← l1]; exact hl)), fun s hs => ?_⟩
  exact g _ m _ _ q (.alloc hs) (o.alloc hs) ⟨s, _, rfl, at_newL o.mem hs, (r1.rep _).st (.alloc hs)⟩
theorem abs_listOf : AbsCall K (fun xs H Q => ∃ p ys, xs = [V.ref p] ∧ (SqL K H p ys ∨ SqT K H p ys) ∧ ∀ l, H l = none → Q (.ref l) (upd H l (.lst ys))) fun As m Kt => ∃ A Bs, As = [A] ∧ IsSq m A Bs ∧ Kt (lst Bs) m := by
  rintro As m Kt fr ρ σ H vs Q ⟨A, Bs, rfl, hs, q⟩ o r g
  cases r with
  | cons r t =>
    cases t
    obtain ⟨p, ys, rfl, h, rr⟩ := hs _ _ _ _ o.mem r
    exact ⟨p, ys, rfl, h, fun l hl => g _ m _ _ q (.alloc hl) (o.alloc hl) ⟨l, _, rfl, at_newL o.mem hl, rr.st (.alloc hl)⟩⟩
/-- xs.count(d), over data -/
def rCntD (K : PySem.W.Frag) : V → List V → Hp → VK → Prop := fun x xs H Q => ∃ (p : Addr) (ys : List V) (y : V) (ds : List PyData) (d : PyData), x = .ref p ∧ xs = [y] ∧ SqL K H p ys ∧ DpAll K H ys ds ∧ Dp K H y d ∧ PyData.plainAll ds = true ∧ d.plain = true ∧ d.depth < 32 ∧ Q (.int ((ds.countP fun z => PyData.eqv z d : Nat) : Int)) H
theorem mt_countD {X : Cx} (hu : X.A.units + 64 < cLine) : MtR X "list.count" (rCntD X.K) := by
  intro pins s σ H x xs v us Q I rx rxs h
  obtain ⟨p, ys, y, ds, d, rfl, rfl, hs, hds, hd, p1, p2, p3, q⟩ := h
  cases rx
  obtain ⟨u, rfl, ru⟩ := rxs.one
  obtain ⟨its, rv, pl, hlen⟩ := I.list hs
  obtain ⟨as, ra⟩ := Dp.readsAll I ds _ _ hds rv
  obtain ⟨bs, rb⟩ := Dp.reads I d _ _ hd ru
  have e : s.heap.IsList p its.toArray := pl.isList
  refine SeqAt.count_list_data (vs := its.toArray) e (by simpa using ra) rb p1 p2 (by omega) ?_
  exact ⟨.int ((ds.countP fun z => PyData.eqv z d : Nat) : Int), H, I.tok _, ⟨s.toks, rfl⟩, q⟩
end
/-- a new list that is to be changed, as a value -/
theorem WN.new {X : Cx} {ρ : Rho} {m : Mem} {Kt : KA} {e : Expr} (h : WN X e ρ m fun As m1 => ∀ q, Kt (val (.ref q)) (m1 ++ [(q, .l As)])) : WE X e ρ m Kt := fun fr σ H o Q g => h fr σ H o Q fun As m' q vs H' k x1 o' r => by
  have hms : ∀ z, z ∈ Ms fr (m' ++ [(q, .l As)]) ↔ z ∈ Ms ((q, .lst vs) :: fr) m' := fun z => by
    unfold Ms
    simp only [List.map_append, List.map_cons, List.map_nil, List.mem_append, List.mem_cons, List.not_mem_nil, or_false]
    constructor
    · rintro (h | h | h)
      · exact .inl (.inr h)
      · exact .inr h
      · exact .inl (.inl h)
    · rintro ((h | h) | h)
      · exact .inr (.inr h)
      · exact .inl h
      · exact .inr (.inl h)
  have xs : Ext (Ms ((q, .lst vs) :: fr) m') H' (Ms fr (m' ++ [(q, .l As)])) H' := .same fun z hz => (hms z).mp hz
  have nq := (List.nodup_cons.mp o'.mem.nd).1
  refine g _ _ _ H' (k q) (x1.trans xs) ⟨o'.env.st xs, ⟨fun b v z => o'.mem.frm b v (List.mem_cons_of_mem _ z), fun b c z => ?_, nd_snoc (List.nodup_cons.mp o'.mem.nd).2 nq⟩⟩ rfl
  rcases List.mem_append.mp z with z | z
  · obtain ⟨v, e, r'⟩ := o'.mem.at_ b c z
    exact ⟨v, e, r'.st xs⟩
  · rw [List.mem_singleton] at z
    cases z
    exact ⟨_, o'.mem.frm _ _ List.mem_cons_self, AllV.st r xs⟩
section
variable {P : Program} {w : World} {K : PySem.W.Frag} {mg : Str → Option Value} {base : Heap}
variable {N : List Str} {sc : Scope} {df : Bool} {k : Nat} {X : Cx} {ρ : Rho} {m : Mem} {Kt : KA} {pos : Pos} {e f : Expr} {es : List Expr}
theorem we_lcat (h : WE X e ρ m fun A m1 => WE X f ρ m1 fun B m2 => ∃ As Bs, IsLs m2 A As ∧ IsLs m2 B Bs ∧ As.length + Bs.length ≤ 1000 ∧ Kt (lst (As ++ Bs)) m2) : WE X (.BinOp e .Add f pos) ρ m Kt :=
  we_bin op_cat abs_lcat h
theorem we_lrep (h : WE X e ρ m fun A m1 => WE X f ρ m1 fun B m2 => ∃ As k, IsLs m2 A As ∧ B = int k ∧ 0 ≤ k ∧ k ≤ 1000 ∧ As.length * k.toNat ≤ 1000 ∧ Kt (lst (List.replicate k.toNat As).flatten) m2) : WE X (.BinOp e .Mult f pos) ρ m Kt :=
  we_bin op_rep abs_lrep h
theorem we_lsl {lo hi : Option Expr} {p2 : Pos} (h : WE X e ρ m fun A m1 => WO X lo ρ m1 fun l m2 => WO X hi ρ m2 fun u m3 => ∃ As, A = lst As ∧ Kt (lst (cutA As l u)) m3) : WE X (.Subscript e (.Slice lo hi none p2) pos) ρ m Kt := by
  intro fr σ H o Q g
  refine le_E (pe_slice sl_list wpE_pe (tO_po lo) (tO_po hi)) ?_
  refine h.to o fun A m1 v H1 h1 x1 o1 r1 => WO.to h1 o1 fun l m2 H2 h2 x2 o2 => WO.to h2 o2 fun u m3 H3 ⟨As, ea, q⟩ x3 o3 => ?_
  subst ea
  obtain ⟨p, xs, rfl, t, rr⟩ := (lst As).st r1 (x2.trans x3)
  exact ⟨p, xs, rfl, .inl (.inl t.1), fun s hs => g _ m3 _ _ q (((x1.trans x2).trans x3).trans (.alloc hs)) (o3.alloc hs) ⟨s, _, rfl, at_newL o3.mem hs, (rr.cut l u).st (.alloc hs)⟩⟩
variable (a : At P w K mg base N sc df k X) (Z : Blt mg)
include a Z in
theorem b_listOf {p : Pos} (hg : sc.names.lookup ("list" : Str) = some .globalImplicit) (h : WA X [e] ρ m fun As m1 => ∃ A Bs, As = [A] ∧ IsSq m1 A Bs ∧ Kt (lst Bs) m1) (he : starEach (e :: []) X.env = (false, eval e X.env) :: starEach [] X.env := by rfl) (hpl : (backTo pos (starEach [] X.env)).any (·.1) = false := by rfl) : WE X (.Call (.Name "list" p) [e] [] pos) ρ m Kt :=
  we_callTy a call_list_of abs_listOf hg Z.list (by decide +kernel) h (by decide) (by decide) he hpl
include a in
/-- o.count(e) -/
theorem we_count {o : Expr} {apos : Pos} (h : WE X o ρ m fun A m1 => (∃ q Cs m6 m7, A = val (.ref q) ∧ m1 = m6 ++ (q, .l Cs) :: m7) ∧ WE X e ρ m1 fun B m2 => ∃ As ds d, IsLs m2 A As ∧ AllDat m2 As ds ∧ IsDat m2 B d ∧ PyData.plainAll ds = true ∧ d.plain = true ∧ d.depth < 32 ∧ Kt (int ((ds.countP fun z => PyData.eqv z d : Nat) : Int)) m2)
    (hbase : attributeBase o "count" X.env (eval o X.env) = eval o X.env := by rfl)
    (hfew : ((backTo pos (starEach (e :: []) X.env)).all (fun x => !x.1) && (backToKw pos (keywordEach [] X.env)).all (fun x => x.1.isSome)
      && decide ((e :: ([] : List Expr)).length + ([] : List Keyword).length + (if ([] : List Keyword).isEmpty then 0 else 1) < 30)) = true := by rfl)
    (hline : (apos.endLine == pos.line) = true := by rfl) (hs : starEach (e :: []) X.env = (false, eval e X.env) :: starEach [] X.env := by rfl) (hplain : (backTo pos (starEach [] X.env)).any (·.1) = false := by rfl) :
    WE X (.Call (.Attribute o "count" apos) [e] [] pos) ρ m Kt := by
  intro fr σ H hh Q g
  have hu : X.A.units + 64 < cLine := hu_at a
  refine le_E (pe_bm PySem.F.plainAttrs_list PySem.F.slot_list_count PySem.F.type_list_count (mt_countD hu) wpE_pe (pa_cons wpE_pe pa_nil hs) hbase hfew hline hs hplain) ?_
  refine h.to hh fun A m1 v H1 ⟨⟨q, Cs, m6, m7, ea, em⟩, h1⟩ x1 o1 r1 => ?_
  subst ea em
  obtain ⟨u0, e0, rr0⟩ := o1.mem.at_ q (.l Cs) (by simp)
  obtain ⟨vs0, rfl, rr0⟩ := rr0.lst
  have r1' : v = V.ref q := r1
  subst r1'
  refine ⟨.inl ⟨rfl, _, .inl (.inl e0)⟩, ?_⟩
  refine h1.to o1 fun B m2 b H2 ⟨As, ds, d, hA, hds, hd, p1, p2, p3, k⟩ x2 o2 r2 => ?_
  obtain ⟨p, ys, ep, t, rr⟩ := hA _ _ _ _ o2.mem (show (val (V.ref q)).p _ _ _ (V.ref q) from rfl)
  exact ⟨p, ys, b, ds, d, ep, rfl, .inl (.inl t), hds.dp o2.mem rr, hd _ _ _ _ o2.mem r2, p1, p2, p3, g _ _ _ _ k (x1.trans x2) o2 rfl⟩
end
end AL
namespace AL
open PySem PySem.Spec L2
open PyProof.Rows hiding St
section
variable {P : Program} {w : World} {K : PySem.W.Frag} {mg : Str → Option Value} {base : Heap} {N : List Str} {sc : Scope} {df : Bool} {k : Nat} {X : Cx}
variable {ρ : Rho} {m : Mem} {Kt : KA} {pos : Pos} {E : EndsA}
theorem swap_two (a : At P w K mg base N sc df k X) {x y : Str} {e f : Expr} {px py pt : Pos} {kt k2 pt2} (hk : sc.kind = .function) (hx : sc.names.lookup x = some .local) (hy : sc.names.lookup y = some .local) (hne : (x == y) = false)
    (hl : (py.line == px.line) = true) (hst : ([e, f].any fun | .Starred .. => true | _ => false) = false) (h1 : [e, f].all (foldedForSure 8) = false) (h2 : [e, f].all (constantsAlone 8) = false) :
    swappedStores [.Tuple [.Name x px, .Name y py] kt pt] (.Tuple [e, f] k2 pt2) X.env = pure (some [x, y]) := by
  have kx : X.env.kindOf x = some .local := by show X.env.scope.names.lookup x = _; rw [a.sce]; exact hx
  have ky : X.env.kindOf y = some .local := by show X.env.scope.names.lookup y = _; rw [a.sce]; exact hy
  have kf : X.env.blockKind = .function := by unfold Env.blockKind; rw [a.sce, hk]; rfl
  have e1 : ((some NameKind.local : Option NameKind) == some NameKind.local) = true := by decide
  have e2 : (px.line == px.line) = true := by simp
  have e3 : (Expr.Name x px).pos = px := rfl
  have ed : ([x, y] : List Str).eraseDups = [x, y] := by
    have hne' : (y == x) = false := by
      rw [beq_eq_false_iff_ne] at hne ⊢
      exact fun z => hne z.symm
    simp [List.eraseDups_cons, hne, hne']
  unfold swappedStores
  simp only [kf, hst, h1, h2, kx, ky, e1, e3, hl, e2, List.head?_cons, Option.map_some, Option.getD_some, List.filterMap_cons, List.filterMap_nil, Bool.and_self, if_true, ed]
  simp
  intro hc
  simp only [List.any_cons, List.any_nil, Bool.or_false, Bool.or_eq_false_iff] at hst
  rcases hc with hc | hc
  · exact absurd (hst.1.symm.trans hc) Bool.false_ne_true
  · exact absurd (hst.2.symm.trans hc) Bool.false_ne_true
theorem ws_par (a : At P w K mg base N sc df k X) (i j : Nat) {x y : Str} {e f : Expr} {px py pt : Pos} {kt k2 pt2} (hi : N[i]? = some x) (hj : N[j]? = some y) (hij : i ≠ j) (hk : sc.kind = .function) (hx : sc.names.lookup x = some .local) (hy : sc.names.lookup y = some .local) (hne : (x == y) = false)
    (hl : (py.line == px.line) = true) (hst : ([e, f].any fun | .Starred .. => true | _ => false) = false) (h1 : [e, f].all (foldedForSure 8) = false) (h2 : [e, f].all (constantsAlone 8) = false)
    (h : WA X [e, f] ρ m fun As m1 => ∃ A B, As = [A, B] ∧ E.nx ((ρ.set i (some A)).set j (some B)) m1)
    (hs : swapsWithSole [.Tuple [.Name x px, .Name y py] kt pt] (.Tuple [e, f] k2 pt2) pos.line X.env = pure false := by rfl) : WS X (.Assign [.Tuple [.Name x px, .Name y py] kt pt] (.Tuple [e, f] k2 pt2) pos) ρ m E := by
  intro fr σ H o D g
  refine le_S (ps_par (i := i) (j := j) a.calm (by rw [a.nm]; exact a.nd) (by rw [a.nm]; exact hi) (by rw [a.nm]; exact hj) hij (by rw [a.sce]; exact hx) (by rw [a.sce]; exact hy) wpA_pa (swap_two a hk hx hy hne hl hst h1 h2) hs) ?_
  refine h fr σ H o _ fun As m1 vs H1 ⟨A, B, e1, q⟩ x1 o1 r1 => ?_
  subst e1
  cases r1 with
  | cons ra r1 =>
    cases r1 with
    | cons rb r1 =>
      cases r1
      exact ⟨_, _, rfl, g.nx _ m1 _ H1 q x1 ⟨(o1.env.set ra i).set rb j, o1.mem⟩⟩
/-- a new list is handed out: it may be changed by the caller -/
theorem ws_retN {e : Expr} (h : WN X e ρ m fun As m1 => ∀ q, E.rt (val (.ref q)) (m1 ++ [(q, .l As)])) : WS X (.Return (some e) pos) ρ m E := by
  intro fr σ H o D g
  refine le_S (ps_ret wpE_pe) (h fr σ H o _ fun As m' q vs H' k x1 o' r => ?_)
  have hms : ∀ z, z ∈ Ms fr (m' ++ [(q, .l As)]) ↔ z ∈ Ms ((q, .lst vs) :: fr) m' := fun z => by
    unfold Ms
    simp only [List.map_append, List.map_cons, List.map_nil, List.mem_append, List.mem_cons, List.not_mem_nil, or_false]
    constructor
    · rintro (h | h | h)
      · exact .inl (.inr h)
      · exact .inr h
      · exact .inl (.inl h)
    · rintro ((h | h) | h)
      · exact .inr (.inr h)
      · exact .inl h
      · exact .inr (.inl h)
  have xs : Ext (Ms ((q, .lst vs) :: fr) m') H' (Ms fr (m' ++ [(q, .l As)])) H' := .same fun z hz => (hms z).mp hz
  have nq := (List.nodup_cons.mp o'.mem.nd).1
  refine g.rt _ _ _ H' (k q) (x1.trans xs) ⟨fun b v z => o'.mem.frm b v (List.mem_cons_of_mem _ z), fun b c z => ?_, nd_snoc (List.nodup_cons.mp o'.mem.nd).2 nq⟩ rfl
  rcases List.mem_append.mp z with z | z
  · obtain ⟨v, e, r'⟩ := o'.mem.at_ b c z
    exact ⟨v, e, r'.st xs⟩
  · rw [List.mem_singleton] at z
    cases z
    exact ⟨_, o'.mem.frm _ _ List.mem_cons_self, AllV.st r xs⟩
/-- one of the two names is captured: no swap -/
theorem swap_no (a : At P w K mg base N sc df k X) {x y : Str} {e f : Expr} {px py pt : Pos} {kt k2 pt2} (hk : sc.kind = .function) (hx : sc.names.lookup x = some .local) (hy : sc.names.lookup y = some .cell) :
    swappedStores [.Tuple [.Name x px, .Name y py] kt pt] (.Tuple [e, f] k2 pt2) X.env = pure none := by
  have kx : X.env.kindOf x = some .local := by show X.env.scope.names.lookup x = _; rw [a.sce]; exact hx
  have ky : X.env.kindOf y = some .cell := by show X.env.scope.names.lookup y = _; rw [a.sce]; exact hy
  have kf : X.env.blockKind = .function := by unfold Env.blockKind; rw [a.sce, hk]; rfl
  have e1 : ((some NameKind.local : Option NameKind) == some NameKind.local) = true := by decide
  have e2 : ((some NameKind.cell : Option NameKind) == some NameKind.local) = false := by decide
  have e3 : (Expr.Name x px).pos = px := rfl
  have e4 : (px.line == px.line) = true := by simp
  unfold swappedStores
  simp only [kf, kx, ky, e1, e2, e3, e4, List.head?_cons, Option.map_some, Option.getD_some, List.filterMap_cons, List.filterMap_nil, Bool.false_and, Bool.true_and, Bool.false_eq_true, if_false, if_true]
  simp
end
end AL
namespace AL
open PySem PySem.Spec L2
open PyProof.Rows hiding St
section
variable {P : Program} {w : World} {K : PySem.W.Frag} {mg : Str → Option Value} {base : Heap} {N : List Str} {sc : Scope} {df : Bool} {k : Nat} {X : Cx}
variable {ρ : Rho} {m : Mem} {Kt : KA} {pos : Pos} {E : EndsA}
/-- three captured names: no swap -/
theorem swap_no3 (a : At P w K mg base N sc df k X) {x y z : Str} {e f g : Expr} {px py pz pt : Pos} {kt k2 pt2} (hk : sc.kind = .function) (hx : sc.names.lookup x = some .cell) (hy : sc.names.lookup y = some .cell) (hz : sc.names.lookup z = some .cell) :
    swappedStores [.Tuple [.Name x px, .Name y py, .Name z pz] kt pt] (.Tuple [e, f, g] k2 pt2) X.env = pure none := by
  have kx : X.env.kindOf x = some .cell := by show X.env.scope.names.lookup x = _; rw [a.sce]; exact hx
  have ky : X.env.kindOf y = some .cell := by show X.env.scope.names.lookup y = _; rw [a.sce]; exact hy
  have kz : X.env.kindOf z = some .cell := by show X.env.scope.names.lookup z = _; rw [a.sce]; exact hz
  have kf : X.env.blockKind = .function := by unfold Env.blockKind; rw [a.sce, hk]; rfl
  have e2 : ((some NameKind.cell : Option NameKind) == some NameKind.local) = false := by decide
  have e3 : (Expr.Name x px).pos = px := rfl
  have e4 : (px.line == px.line) = true := by simp
  unfold swappedStores
  simp only [kf, kx, ky, kz, e2, e3, e4, List.head?_cons, Option.map_some, Option.getD_some, List.filterMap_cons, List.filterMap_nil, Bool.false_and, Bool.true_and, Bool.false_eq_true, if_false, if_true]
  simp
def tBack (K : PySem.W.Frag) (te : TE) : TE := fun σ H Q =>
  te σ H fun x J => ∃ a ys, x = .ref a ∧ SqL K J a ys ∧ ∀ q, J q = none → Q (.ref q) (upd J q (.lst ys.reverse))
/-- e[::0 - 1] -/
theorem pe_back {e : Expr} {te : TE} {i j : Nat} {p1 p2 p3 p4 pos : Pos} (he : PE X e te) :
    PE X (.Subscript e (.Slice none none (some (.BinOp (.Constant (.int 0) i p1) .Sub (.Constant (.int 1) j p2) p3)) p4) pos) (tBack X.K te) := by
  refine ⟨fun pins s σ H Q I hh => ?_⟩
  refine Subscript_ (thn (he.run pins s σ H _ I hh) fun v t1 ⟨x, J1, I1, r1, q1⟩ => ?_)
  obtain ⟨a, ys, rfl, hy, q⟩ := q1
  cases r1
  have hp : PO X (some (.BinOp (.Constant (.int 0) i p1) .Sub (.Constant (.int 1) j p2) p3)) (tPart (tOp (rI0 fun i j => .int (i - j)) (tC (.int 0)) (tC (.int 1)))) := po_some (pe_op op_sub pe_int pe_int)
  refine wpAny_Slice (thn (po_none.run pins t1 σ J1 (fun o J2 => o = none ∧ J2 = J1) I1 ⟨rfl, rfl⟩) fun vl t2 ⟨l, J2, I2, pl, el, e2⟩ => ?_)
  obtain rfl := e2
  obtain rfl := el
  refine thn (po_none.run pins t2 σ J2 (fun o J3 => o = none ∧ J3 = J2) I2 ⟨rfl, rfl⟩) fun vu t3 ⟨u, J3, I3, pu, eu, e3⟩ => ?_
  obtain rfl := e3
  obtain rfl := eu
  refine thn (hp.run pins t3 σ J3 (fun o J4 => o = some (-1) ∧ J4 = J3) I3 ⟨0, 1, rfl, rfl, -1, rfl, rfl, rfl⟩) fun vs t4 ⟨o, J4, I4, ps, eo, e4⟩ => ?_
  obtain rfl := e4
  obtain rfl := eo
  have I5 : Inv X pins σ J4 { t4 with heap := t4.heap.push { cls := .type "slice", data := .fields #[vl, vu, vs] } } :=
    I4.kept (t' := t4.toks) fun b ob z => Heap.get?_push_of_some _ z
  obtain ⟨its, r, ht, hz⟩ := I5.list hy
  have hlen := r.length
  show wpAny (model X.prog X.w) X.A (subscriptTail e (.Slice none none (some (.BinOp (.Constant (.int 0) i p1) .Sub (.Constant (.int 1) j p2) p3)) p4) (.ref a) (.ref t4.heap.objs.size)) (EP X pins σ Q) X.xe
    { t4 with heap := t4.heap.push { cls := .type "slice", data := .fields #[vl, vu, vs] } }
  refine tail_any (ops := [.ref a, .ref t4.heap.objs.size]) ht.isList.typeIs
    (PySem.slot_list_getitem.lookup) ?_ (by with_unfolding_all rfl)
  refine wpAny_getItem_list_slice ht.isList (Heap.IsSliceOf.new _ vl vu vs) pl pu ps (by decide) ?_
    (by rw [List.size_toArray]; omega)
  rw [PySem.W.krv_pick]
  refine ⟨.ref _, _, I5.laid (t' := t4.toks) (o := .lst ys.reverse) (fun b ob z => Heap.get?_push_of_some _ z)
    (Nat.le_refl _) ?_, rfl, q _ (I5.hok.fresh (Nat.le_refl _))⟩
  refine ⟨?_, _, 0, r.reverse, Heap.get?_push_size _ rfl⟩
  rw [List.length_reverse]
  exact hz
theorem we_back {e : Expr} {i j : Nat} {p1 p2 p3 p4 pos : Pos} (h : WE X e ρ m fun A m1 => ∃ As, A = lst As ∧ Kt (lst As.reverse) m1) :
    WE X (.Subscript e (.Slice none none (some (.BinOp (.Constant (.int 0) i p1) .Sub (.Constant (.int 1) j p2) p3)) p4) pos) ρ m Kt := by
  intro fr σ H o Q g
  refine le_E (pe_back wpE_pe) ?_
  refine h.to o fun A m1 v H1 ⟨As, ea, q⟩ x1 o1 r1 => ?_
  subst ea
  obtain ⟨p, xs, rfl, t, rr⟩ := r1
  exact ⟨p, xs, rfl, .inl (.inl t.1), fun s hs => g _ m1 _ _ q (x1.trans (.alloc hs)) (o1.alloc hs) ⟨s, _, rfl, at_newL o1.mem hs, rr.reverse.st (.alloc hs)⟩⟩
end
end AL
namespace AL
open PySem PySem.Spec L2
open PyProof.Rows hiding St
section
variable {P : Program} {w : World} {K : PySem.W.Frag} {mg : Str → Option Value} {base : Heap} {N : List Str} {sc : Scope} {df : Bool} {k : Nat} {X : Cx}
variable {ρ : Rho} {m : Mem} {Kt : KA} {Kl : KL} {pos : Pos} {E : EndsA} (a0 : At P w K mg base N sc df k X)
/-- a comprehension with one test -/
def LcF (X : Cx) (scope : Scope) (c elt : Expr) (tgt : Nat → AV → Rho → Rho) (ρ0 : Rho) (Is : List AV) (m1 : Mem) (Kl : KL) : Prop :=
  Is.length ≤ 1000 ∧ ∃ W : Nat → List AV → Mem → Prop, W 0 [] m1 ∧ (∀ i acc m' A, Is[i]? = some A → W i acc m' → ∀ X', BlkOf X scope X' →
    WT X' c (tgt i A ρ0) m' fun b m3 => Br b (∀ X2, BlkOf X scope X2 → WE X2 elt (tgt i A ρ0) m3 fun B m4 => W (i + 1) (acc ++ [B]) m4) (W (i + 1) acc m3)) ∧ ∀ acc m', W Is.length acc m' → Kl acc m'
def ttBlk (X : Cx) (scope : Scope) (c : Expr) : TT := fun σ H Q => ∀ X', BlkOf X scope X' → wpT X' c σ H Q
theorem ttBlk_pt {scope : Scope} {c : Expr} (s : Shared) (H : Hp) (C : Addr) (cl : List (Str × Addr)) (fp : List Addr) : PTs (X.blk s H scope (compEnvC scope cl C X.env) fp) [c] (ttBlk X scope c) :=
  pts_one ⟨fun pins s' σ H' Q I h => h _ ⟨s, H, cl, C, fp, rfl⟩ pins s' I⟩
theorem lc_readF {scope : Scope} {c elt : Expr} {tgt : Nat → AV → Rho → Rho} {g : TG} {vs : List Nat} {fr : Frm} {σ : St} {J : It} {m1 : Mem} {H1 : Hp} {Is : List AV} {Q : VK} {D : Addr}
    (hg : ∀ (i : Nat) (A : AV) (x : V) (M : Mem) (frx : Frm) (H2 : Hp) (R : St → Hp → Prop), Is[i]? = some A → A.p X.K (Ms frx M) H2 x → EnvV X.K (Ms frx M) H2 (wipeR ρ vs) (wipe σ vs) → (∀ σ2, wipe σ2 vs = wipe σ vs → EnvV X.K (Ms frx M) H2 (tgt i A (wipeR ρ vs)) σ2 → R σ2 H2) → g x (wipe σ vs) H2 R)
    (o1 : Holds X.K fr ρ m1 σ H1) (it : IterOk X.K J (Ms fr m1) H1 Is) (hD : H1 D = none) (h : LcF X scope c elt tgt (wipeR ρ vs) Is m1 Kl)
    (fin : ∀ As m' xs H', Kl As m' → Ext (Ms fr m1) H1 (Ms ((D, .lst xs) :: fr) m') H' → Holds X.K ((D, .lst xs) :: fr) ρ m' σ H' → AllV X.K (Ms ((D, .lst xs) :: fr) m') H' As xs → Q (.ref D) H') :
    ∃ W : Nat → Nat → Hp → Prop, (∃ n, W 0 n (upd H1 D (.lst []))) ∧ ∀ i n H, W i n H →
      (J.stop i H ∧ Q (.ref D) H) ∨ (J.go i H ∧ ∃ Nx : Hp → Prop, (∀ H', Nx H' → ∃ n', n' < n ∧ W (i + 1) n' H') ∧ ∀ x H', J.yld i H x H' → g x (wipe σ vs) H' fun σ2 H2 => wipe σ2 vs = wipe σ vs ∧ ttBlk X scope c σ2 H2 fun b H3 =>
        if b = true then teBlk X scope elt σ2 H3 fun y H4 => ∃ acc, H4 D = some (.lst acc) ∧ acc.length < sizeLine ∧ Nx (upd H4 D (.lst (acc ++ [y]))) else Nx H3) := by
  obtain ⟨hlen, W, w0, step, last⟩ := h
  let S : Nat → Hp → Prop := fun i H => i ≤ Is.length ∧ ∃ acc m' xs, W i acc m' ∧ Ext (Ms fr m1) H1 (Ms ((D, .lst xs) :: fr) m') H ∧ MemV X.K ((D, .lst xs) :: fr) m' H ∧ EnvV X.K (Ms ((D, .lst xs) :: fr) m') H ρ σ ∧ AllV X.K (Ms ((D, .lst xs) :: fr) m') H acc xs ∧ xs.length ≤ i
  refine ⟨fun i n H => n = Is.length - i ∧ S i H, ⟨_, rfl, Nat.zero_le _, [], m1, [], w0, .push hD, o1.mem.push hD, o1.env.st (.push hD), .nil, Nat.le_refl _⟩, ?_⟩
  rintro i n H ⟨rfl, hi, acc, m', xs, hw, x, mv, ev, rv, hxl⟩
  by_cases hlt : i < Is.length
  · refine .inr ⟨it.go i _ _ hlt x, S (i + 1), fun H' hN => ⟨Is.length - (i + 1), by omega, rfl, hN⟩, fun y H2 hy => ?_⟩
    have hA : Is[i]? = some Is[i] := by simp [hlt]
    obtain ⟨hh, hv⟩ := it.yld i _ _ y H2 hlt x (fun b hb => mv.has hb) hy
    obtain ⟨mv2, x2⟩ := mv.ofYld hh
    refine hg i Is[i] y m' _ H2 _ hA (hv _ hA) ((ev.st x2).wipe vs) fun σ2 hs e2 => ⟨hs, ?_⟩
    intro X' hX'
    have hs' := step i acc m' Is[i] hA hw X' hX'
    refine hs' _ σ2 H2 ⟨by rw [hX'.kt]; exact e2, by rw [hX'.kt]; exact mv2⟩ _ fun b m3 H3 hB x3 o3 => ?_
    rw [hX'.kt] at o3
    cases b with
    | false =>
      rw [if_neg (by decide)]
      have hW : W (i + 1) acc m3 := hB.ite
      have x5 := x2.trans x3
      exact ⟨hlt, acc, m3, xs, hW, x.trans x5, o3.mem, ev.st x5, rv.st x5, by omega⟩
    | true =>
      rw [if_pos rfl]
      intro X2 hX2
      have hW0 := hB.ite
      rw [if_pos rfl] at hW0
      have o3' : Holds X2.K ((D, .lst xs) :: fr) (tgt i Is[i] (wipeR ρ vs)) m3 σ2 H3 := ⟨by rw [hX2.kt]; exact o3.env, by rw [hX2.kt]; exact o3.mem⟩
      refine hW0 X2 hX2 _ σ2 H3 o3' _ fun B m4 yv H4 hW x4 o4 r4 => ?_
      rw [hX2.kt] at o4 r4
      have hD4 : H4 D = some (.lst xs) := o4.mem.frm _ _ List.mem_cons_self
      refine ⟨xs, hD4, Nat.le_of_lt_succ (Nat.lt_succ_of_lt (small1000 (by omega))), ?_⟩
      have x5 : Ext (Ms ((D, .lst xs) :: fr) m') H (Ms ((D, .lst (xs ++ [yv])) :: fr) m4) (upd H4 D (.lst (xs ++ [yv]))) := ((x2.trans x3).trans x4).trans .re
      exact ⟨hlt, acc ++ [B], m4, xs ++ [yv], hW, x.trans x5, o4.mem.re, ev.st x5, (rv.st x5).append (.cons (B.st r4 .re) .nil), by rw [List.length_append]; show xs.length + 1 ≤ _; omega⟩
  · have ei : i = Is.length := by omega
    subst ei
    refine .inl ⟨it.stop _ _ x, ?_⟩
    exact fin acc m' xs H (last acc m' hw) x ⟨ev, mv⟩ rv
include a0 in
theorem wn_lcf (j : Nat) {nm : Str} {tpos : Pos} {c elt iter : Expr} {scope : Scope} (hok : blkC N sc scope [(nm, j)] = true) (hj : N[j]? = some nm) (hl : (relS scope sc).names.lookup nm = some .local)
    (h : WI X (.Name nm tpos) iter ρ m fun Is m1 => LcF X scope c elt (fun _ A r => r.set j (some A)) (wipeR ρ [j]) Is m1 Kl) (hs : ∀ x, foldedSetIterable iter X.env x = pure x := by intro _; rfl) : WN X (.ListComp elt [⟨.Name nm tpos, iter, [c], 0⟩] scope pos) ρ m Kl := by
  intro fr σ H o Q g
  refine le_E (pe_lc (own := [(nm, j)]) (g := gName j) (tt := ttBlk X scope c) a0.calm (by rw [a0.nm]; exact a0.nd) wpI_pi (blkOk_by (by rw [a0.nm, a0.sce]; exact hok)) (fun s H C cl fp => pgn (blk_at a0) j hj (.inl hl)) (fun s H C cl fp => ttBlk_pt s H C cl fp) teBlk_pe hs) ?_
  refine h fr σ H o _ fun Is m1 J H1 hW x1 o1 it D hD => ?_
  refine lc_readF (fun i A y M frx H2 R _ hv ev k => k _ wipe1 (ev.set hv j)) o1 it hD hW fun As m' xs H' q x2 o2 rv => ?_
  exact g As m' D xs H' q (x1.trans x2) o2 rv
include a0 in
/-- name = [.. for .. if ..] on one line -/
theorem ws_lcf (i j : Nat) {x nm : Str} {tpos py spos : Pos} {c elt iter : Expr} {scope : Scope} (hk : sc.kind = .function) (hx : N[i]? = some x) (hxl : sc.names.lookup x = some .local) (hln : (py.line == pos.line) = true) (hany : (scope.names.any fun (n, k) => n == x && (k == .local || k == .cell)) = false)
    (hok : blkC N sc scope [(nm, j)] = true) (hj : N[j]? = some nm) (hl : (relS scope sc).names.lookup nm = some .local)
    (h : WI X (.Name nm tpos) iter ρ m fun Is m1 => LcF X scope c elt (fun _ A r => r.set j (some A)) (wipeR ρ [j]) Is m1 fun As m2 => E.nx (ρ.set i (some (lst As))) m2) (hs : ∀ x, foldedSetIterable iter X.env x = pure x := by intro _; rfl) :
    WS X (.Assign [.Name x py] (.ListComp elt [⟨.Name nm tpos, iter, [c], 0⟩] scope pos) spos) ρ m E := by
  intro fr σ H o D0 g
  refine le_S (ps_setLc (own := [(nm, j)]) (g := gName j) (tt := ttBlk X scope c) a0.calm (by rw [a0.nm]; exact a0.nd) (by rw [a0.nm]; exact hx) (by rw [a0.sce]; exact hxl) (sw_true ?_ (by rw [a0.sce]; exact hxl) hln hany) wpI_pi (blkOk_by (by rw [a0.nm, a0.sce]; exact hok)) (fun s H C cl fp => pgn (blk_at a0) j hj (.inl hl)) (fun s H C cl fp => ttBlk_pt s H C cl fp) teBlk_pe hs) ?_
  · rw [a0.sce]; exact hk
  refine h fr σ H o _ fun Is m1 J H1 hW x1 o1 it D hD => ?_
  refine lc_readF (Q := fun x H1 => D0.nx (σ.set i (some x)) H1) (g := gName j) (vs := [j]) (fun i A y M frx H2 R _ hv ev k => k _ wipe1 (ev.set hv j)) o1 it hD hW fun As m' xs H' q x2 o2 rv => ?_
  obtain ⟨o3, r3⟩ := new_lst o2 rv
  exact g.nx _ m' _ H' q (x1.trans (x2.trans .pop)) ⟨o3.env.set r3 i, o3.mem⟩
omit a0 in
theorem ws_cont (h : E.ct ρ m) : WS X (.Continue pos) ρ m E := fun fr σ H o D g => le_S ps_continue (g.ct ρ m σ H h (.refl _ _) o)
end
end AL
namespace AL
open PySem PySem.Spec L2
open PyProof.Rows hiding St
/-- what a def promises to a caller with no guard under way -/
def FnG (P : Program) (w : World) (K : PySem.W.Frag) (mg : Str → Option Value) (base : Heap) (k : Nat) (f : Addr) (fd : FuncData) (ps : List Str) (sp : Sp) : Prop :=
  ∀ (A : Around), A.guards = some [] → Room k A → ∀ outer s H (args : Args) us vs Q, Env0 P w K mg base A outer s H → BindsTo s fd args (ps.zip us) →
    Vals vs us → sp vs H Q E0 → codeAny (model P w) A (.call (.ref f) args) (CR CX0 outer P w H s Q E0) s
section
variable {P : Program} {w : World} {K : PySem.W.Frag} {mg : Str → Option Value} {base : Heap} {N : List Str} {sc : Scope} {df : Bool} {k : Nat} {X : Cx}
variable {ρ : Rho} {m : Mem} {Kt : KA} {pos : Pos} {e f : Expr} {E : EndsA} {Kl : KL} {es : List Expr} {Kb : KT}
theorem FnG.of {x qual : Str} {st : Stmt} {f : Addr} {fd : FuncData} {ps : List Str} {k : Nat} {sp : Sp} (F : Fun K x qual st f fd) (S : FnScope N ps (defScope st))
    (len : ∀ vs H Q E, sp vs H Q E → vs.length = ps.length)
    (hbody : ∀ (cdv : Value) (A : Around) (outer : List Env) (s : Shared) (H : Hp) (vs : List V) (Q : VK), A.guards = some [] → Room k (A.deeper (envOfC qual (defScope st) s.heap.objs.size f cdv)) → sp vs H Q E0 →
      wpSs (cxOf CX0 P w K mg base N qual (defScope st) f cdv A outer s H E0).nox (defBody st) { nx := fun _ H' => Q .non H', rt := Q } (start N vs) H) : FnG P w K mg base (k + 1) f fd ps sp := by
  obtain ⟨oc, od, kV, doc, pm, an, cdv, ct, osl, efd, lk, hcd⟩ := F.ex
  subst efd
  intro A hg room outer s H args us vs Q env bnd vals wish
  have size := len _ _ _ _ wish
  have KX : K.In s.heap := (env.mod).kin.keeps fun b o z => (env.bs b o z).1
  have lim : s.heap.NoLimit := (env.mod).nolimit.keeps fun b o z => (env.bs b o z).1
  have kinds : ∀ y ∈ ps.zip us, (defScope st).names.lookup y.1 = some .local ∨ ((defScope st).names.lookup y.1 = some .cell ∧ ((cellsFrom (s.heap.objs.size + 1) (defScope st).names []).lookup y.1).isSome = true) := by
    rintro ⟨n, v⟩ hy
    exact (S.par n (List.of_mem_zip hy).1).elim .inl fun z => .inr ⟨z, PySem.W.cellsFrom_some _ _ _ (.inl z)⟩
  refine codeAny_call_function room.depth (KX _ _ lk) rfl S.co S.gen rfl
    (PySem.W.codeRec_of KX hcd) (bnd _ _ _ _ ?_)
  refine wpAny_newFunctionEnv_cells S.kind kinds fun env2 he s1 x => ?_
  subst env2
  refine ⟨lim.keeps x.toInCall.keep, codeAny_func ?_⟩
  have I := inv_start (CX := CX0) (mg := mg) (E := E0) S room.hd env size vals x
  have body := hbody cdv A outer s H vs Q hg (room.deeper _) wish
  have pp : PSs (cxOf CX0 P w K mg base N qual (defScope st) f cdv A outer s H E0).nox (defBody st) (wpSs (cxOf CX0 P w K mg base N qual (defScope st) f cdv A outer s H E0).nox (defBody st)) := wpSs_pss
  refine wpAny_mono (pp.nox.run [] s1 (start N vs) H _ I body) (fun fl s2 hs => ?_) fun e s2 hs => hs
  cases fl with
  | brk => exact let ⟨_, _, _, z⟩ := hs; z.elim
  | cont => exact let ⟨_, _, _, z⟩ := hs; z.elim
  | next => exact let ⟨_, H2, J, z⟩ := hs; ⟨.non, H2, J.os, J.bare, J.base, J.hok, rfl, z⟩
  | ret u => exact let ⟨v, _, H2, J, rv, z⟩ := hs; ⟨v, H2, J.os, J.bare, J.base, J.hok, rv, z⟩
/-- THE RULE for a def that is called with no guard under way -/
theorem fnG {x qual : Str} {st : Stmt} {f : Addr} {fd : FuncData} {ps : List Str} {j : Nat} {C : CT} (F : Fun K x qual st f fd) (S : FnScope N ps (defScope st))
    (len : ∀ As m Kt, C As m Kt → As.length = ps.length)
    (body : ∀ X, At P w K mg base N (defScope st) true j X → X.A.guards = some [] → ∀ As m Kt, C As m Kt → WSs X (defBody st) (startR N As) m (bodyE Kt)) : FnG P w K mg base (j + 1) f fd ps (spOf K C) := by
  refine FnG.of F S (fun vs H Q E ⟨fr, As, m, Kt, hc, _, r, _⟩ => by rw [← r.length]; exact len As m Kt hc) (fun cdv A outer s H vs Q hg hr h => ?_)
  obtain ⟨fr, As, m, Kt, hc, mv, r, g⟩ := h
  refine body _ ⟨rfl, rfl, rfl, rfl, rfl, rfl, rfl, rfl, hr, S.nd, fun _ _ => rfl, PassesOwn.never⟩ hg As m Kt hc fr _ H ⟨startV r, mv⟩ _ ⟨fun ρ' m' σ' H' ⟨mr, loc, e, q⟩ x o => ?_, fun A m' v H' ⟨B, mr, loc, e, cv, q⟩ x o r' => ?_, fun ρ' m' σ' H' q x o => q.elim, fun ρ' m' σ' H' q x o => q.elim⟩
  · subst e
    obtain ⟨mv', x'⟩ := o.mem.drop
    exact g non mr .non H' q (x.trans x') mv' rfl
  · subst e
    obtain ⟨mv', x'⟩ := o.drop
    exact g B mr v H' q (x.trans x') mv' (cv K fr H' v o r')
end
end AL
namespace AL
open PySem PySem.Spec L2
open PyProof.Rows hiding St
theorem guards_caller : callerA.guards = some [] := rfl
/-- the law is called with no guard under way, nothing tracked but its script -/
theorem law_callG {P : Program} {w : World} {K : PySem.W.Frag} {mg mb : Str → Option Value} {k : Nat} {fa a : Addr} {fd : FuncData} {x : Str} {sp : Sp} {t : Shared} {vs : List Value} {ns : List Int}
    (KX : K.In t.heap) (hns : t.heap.Ns mainGlobals mg) (hb : t.heap.Ns builtinsNs mb) (hbb : ∀ x : Str, x ≠ "__name__" → mb x = bootBuiltins x)
    (hlim : t.heap.NoLimit) (hg : t.gens = #[]) (ha : t.heap.get? a = some { cls := .type "list", data := .seq vs.toArray })
    (hi : IntsAre vs ns) (hl : ns.length ≤ sizeLine) (hr : Room k callerA)
    (F : ∀ base : Heap, K.In base → base.Ns mainGlobals mg → FnG P w K mg base k fa fd [x] sp) (bnd : ∀ (s : Shared) (u : Value), BindsTo s fd ⟨[u], []⟩ [(x, u)])
    (hsp : ∀ H : Hp, Only H → SqL K H a (ns.map V.int) → sp [.ref a] H (fun v _ => v = .bl true) E0) :
    codeAny (model P w) callerA (.call (.ref fa) ⟨[.ref a], []⟩) (fun r s' => r = .ok (.ret (.bool true)) ∧ OldK t.heap s'.heap ∧ s'.os = t.os ∧ AllBare s'.gens) t := by
  have rv := vals_ints hi
  have lv := hi.length
  have main : ∀ H : Hp, Only H → SqL K H a (ns.map V.int) → HOk P w H t.heap → (∀ b, H b ≠ none → b = a) → (H a ≠ none → K.lookup a = none) →
      codeAny (model P w) callerA (.call (.ref fa) ⟨[.ref a], []⟩) (fun r s' => r = .ok (.ret (.bool true)) ∧ OldK t.heap s'.heap ∧ s'.os = t.os ∧ AllBare s'.gens) t := by
    intro H only sq hok own lone
    have out : ∀ {b : Addr} {o : Obj}, t.heap.get? b = some o → H b = none → (hidT t.heap H).get? b = some o := fun z n => hidT_get z n
    have noDict : ∀ {b : Addr} {o : Obj} {es : Array DictEntry} {ep : Nat}, t.heap.get? b = some o → o.data = .dict es ep → H b = none := by
      intro b o es ep z dd
      cases q : H b with
      | none => rfl
      | some u =>
        have := own b (by rw [q]; exact Option.some_ne_none u)
        subst this
        rw [ha] at z
        cases z
        have dd' : Data.seq vs.toArray _ = Data.dict es ep := dd
        cases dd'
    have nsH : ∀ {b : Addr} {m : Str → Option Value}, t.heap.Ns b m → (hidT t.heap H).Ns b m := by
      rintro b m ⟨o, es, ep, z, dd, r⟩
      exact ⟨o, es, ep, out z (noDict z dd), dd, r⟩
    have kinH : K.In (hidT t.heap H) := fun b o z => out (KX b o z) (by
      cases q : H b with
      | none => rfl
      | some u =>
        have := own b (by rw [q]; exact Option.some_ne_none u)
        subst this
        rw [lone (by rw [q]; exact Option.some_ne_none u)] at z
        cases z)
    have modH : Mod K mg (hidT t.heap H) := ⟨kinH, nsH hns, ⟨mb, nsH hb, hbb⟩, let ⟨mc, h1, h2⟩ := hlim; ⟨mc, nsH h1, h2⟩⟩
    have env : Env0 P w K mg (hidT t.heap H) callerA [] t H :=
      ⟨rfl, modH, fun b o z => of_hidT z, Nat.le_of_eq (hidT_size _ _), trivial, fun b z => absurd z List.not_mem_nil, hok, .of_eq hg⟩
    have run := F _ kinH (nsH hns) callerA guards_caller hr [] t H ⟨[.ref a], []⟩ [.ref a] [.ref a] _ env (bnd t (.ref a)) (.cons rfl .nil) (hsp H only sq)
    refine codeAny_mono run fun r s' h => ?_
    cases r with
    | error z => exact False.elim h
    | ok fl =>
      cases fl with
      | next => exact h.elim
      | brk => exact h.elim
      | cont => exact h.elim
      | ret u =>
        obtain ⟨v, H', os, bare, un, hok2, rr, q⟩ := h
        have qv : v = .bl true := q
        subst qv
        obtain rfl : u = Value.bool true := rr
        refine ⟨rfl, OldK.of_keep fun b o z => ?_, os, bare⟩
        cases qb : H b with
        | none => exact un.keep b o z qb (fun y => absurd y List.not_mem_nil) (by simp)
        | some u =>
          rcases only b with y | ⟨ob, xs, y⟩
          · rw [qb] at y
            cases y
          · obtain ⟨e1, _⟩ := hok b _ y
            obtain ⟨e2, _⟩ := hok2 b _ (un.frzs b ob _ y)
            rw [z] at e1
            cases e1
            exact e2
  by_cases hk : ∃ o, K.lookup a = some o
  · obtain ⟨o, hk⟩ := hk
    have z := KX a o hk
    rw [ha] at z
    cases z
    exact main (fun _ => none) (fun _ => .inl rfl) (.inr ⟨_, vs.toArray, _, hk, rfl, rfl, rfl, by rw [List.size_toArray, lv]; exact hl, by simpa using rv⟩)
      (fun b u (y : (none : Option HO) = some u) => nomatch y) (fun b y => (y rfl).elim) fun y => (y rfl).elim
  · have hk : K.lookup a = none := by
      cases q : K.lookup a with
      | none => rfl
      | some o => exact absurd ⟨o, q⟩ hk
    have same : ∀ {b : Addr} {u : HO}, (if b = a then some (HO.frz { cls := .type "list", data := .seq vs.toArray } (.lst (ns.map V.int))) else none) = some u → b = a ∧ u = .frz { cls := .type "list", data := .seq vs.toArray } (.lst (ns.map V.int)) := by
      intro b u y
      by_cases c : b = a
      · rw [if_pos c] at y
        exact ⟨c, (Option.some.inj y).symm⟩
      · rw [if_neg c] at y
        cases y
    refine main (fun b => if b = a then some (.frz { cls := .type "list", data := .seq vs.toArray } (.lst (ns.map V.int))) else none) (fun b => ?_)
      (.inl (.inr ⟨_, if_pos rfl⟩)) (fun b u y => ?_) (fun b y => ?_) fun _ => hk
    · by_cases c : b = a
      · exact .inr ⟨_, _, if_pos c⟩
      · exact .inl (if_neg c)
    · obtain ⟨c, eu⟩ := same y
      subst c
      subst eu
      exact ⟨ha, by rw [List.length_map]; exact hl, vs, _, rv, ha⟩
    · by_cases c : b = a
      · exact c
      · exact (y (if_neg c)).elim
/-- the goal that is left behind the head, from the law's promise to such a caller -/
theorem walk_ofG {l : PySem.W.OpenLaw} {n k : Nat} {q : Program} {loose : List Str} {XP : (Str → Option Value) → Heap → Prop} {YP : World → Heap → Prop} {d : DefRec} {K : Params → PySem.W.Frag} {sp : World → Sp} {x : Str}
    (hn : l.most = some n) (hn2 : n ≤ sizeLine) (hdf : d.params.defaults = [])
    (hr : Room k callerA) (hY : ∀ (w : World) (h : Heap), YP w h → (K w.params).In h)
    (F : ∀ (w : World) (mg : Str → Option Value) (fa : Addr) (h : Heap), (K w.params).In h → h.Ns mainGlobals mg → mg d.name = some (.ref fa) →
      ∃ fd : FuncData, (∀ (s : Shared) (u : Value), BindsTo s fd ⟨[u], []⟩ [(x, u)]) ∧ ∀ base : Heap, (K w.params).In base → base.Ns mainGlobals mg → FnG l.prog w (K w.params) mg base k fa fd [x] (sp w))
    (hsp : ∀ (w : World) (H : Hp) (a : Addr) (ns : List Int), ns.length ≤ n → Only H → SqL (K w.params) H a (ns.map V.int) → sp w [.ref a] H (fun v _ => v = .bl true) E0) :
    PySem.W.WalkO q loose XP YP l.row.toRowW d [] (fun f vs => PySem.call f vs) := by
  refine Att.attach_call hn hdf fun w s₀ t mg mb fa o pm cd doc a vs ns G Y ho hd hcd hmg hobj hints hlen hg => ?_
  obtain ⟨fd, bnd, hF⟩ := F w mg fa _ (hY w _ Y) G.T.g hmg
  exact law_callG (hY w _ Y) G.T.g G.T.b G.T.builtins G.T.nolimit hg hobj hints (Nat.le_trans hlen hn2) hr hF bnd fun H only sq => hsp w H a ns hlen only sq
end AL
namespace AL
open PySem PySem.Spec L2
open PyProof.Rows hiding St
mutual
/-- data of numbers, in lists and tuples -/
def numD : PyData → Bool
  | .none | .bool _ => true
  | .int i => decide (i.natAbs.log2 < 1920)
  | .list xs | .tuple xs => numAll xs
  | _ => false
def numAll : List PyData → Bool
  | [] => true
  | x :: xs => numD x && numAll xs
end
mutual
theorem numD_ok : ∀ d : PyData, numD d = true → d.showable = true ∧ d.hasDict = false ∧ d.leavesShort 1930 = true
  | .none, _ => ⟨rfl, rfl, rfl⟩
  | .bool _, _ => ⟨rfl, rfl, rfl⟩
  | .int i, h => by
    have h1 : i.natAbs.log2 < 1920 := of_decide_eq_true (by simpa [numD] using h)
    refine ⟨by simpa [PyData.showable] using h1, rfl, ?_⟩
    have e := int_text_length_le (k := 1920) (by decide) h1
    have e2 : (Str.ofString (toString i)).length ≤ 1930 := by
      rw [PySem.ofString_length]
      omega
    have : decide ((PyData.shown (.int i)).length ≤ 1930) = true := decide_eq_true e2
    simpa only [PyData.leavesShort] using this
  | .list xs, h => by
    have := numAll_ok xs (by simpa [numD] using h)
    simpa only [PyData.showable, PyData.hasDict, PyData.leavesShort] using this
  | .tuple xs, h => by
    have := numAll_ok xs (by simpa [numD] using h)
    simpa only [PyData.showable, PyData.hasDict, PyData.leavesShort] using this
  | .str _, h => by simp [numD] at h
  | .dict _, h => by simp [numD] at h
theorem numAll_ok : ∀ xs : List PyData, numAll xs = true → PyData.showableAll xs = true ∧ PyData.hasDictAll xs = false ∧ PyData.leavesShortAll 1930 xs = true
  | [], _ => ⟨rfl, rfl, rfl⟩
  | x :: xs, h => by
    simp only [numAll, Bool.and_eq_true] at h
    obtain ⟨a1, a2, a3⟩ := numD_ok x h.1
    obtain ⟨b1, b2, b3⟩ := numAll_ok xs h.2
    simp [PyData.showableAll, PyData.hasDictAll, PyData.leavesShortAll, a1, a2, a3, b1, b2, b3]
end
/-- a list or a tuple that can be shown -/
def ShowD (d : PyData) : Prop := (∃ ds, d = .tuple ds ∨ d = .list ds) ∧ numD d = true ∧ d.bulk ≤ 8000 ∧ d.depth ≤ 30
theorem ShowD.fits {d : PyData} (h : ShowD d) : d.shown.length ≤ sizeLine := by
  have h1 := PyData.shown_le_bulk 1930 (by decide) d (numD_ok d h.2.1).2.2
  have h2 := h.2.2.1
  have e : sizeLine = 2 ^ 24 := rfl
  have m : (1930 + 2) * d.bulk ≤ (1930 + 2) * 8000 := Nat.mul_le_mul_left _ h2
  rw [e]
  omega
def rShow (K : PySem.W.Frag) : List V → Hp → VK → Prop := fun xs H Q => ∃ v d, xs = [v] ∧ Dp K H v d ∧ ShowD d ∧ Q (.str d.shown) H
section
variable {P : Program} {w : World} {K : PySem.W.Frag} {mg : Str → Option Value} {base : Heap} {N : List Str} {sc : Scope} {df : Bool} {k : Nat} {X : Cx}
variable {ρ : Rho} {m : Mem} {Kt : KA} {pos : Pos} {e f : Expr} {E : EndsA} {Kl : KL} {es : List Expr} {Kb : KT}
theorem call_show (hg : X.A.guards = some []) (hu : X.A.units + 64 < cLine) : CallR X (.builtin "repr") (rShow X.K) := by
  intro pins s σ H xs us Q I r h
  obtain ⟨v, d, rfl, hd, sh, q⟩ := h
  obtain ⟨u, rfl, ru⟩ := r.one
  obtain ⟨as, rd⟩ := Dp.reads I d v u hd ru
  obtain ⟨a1, a2, a3⟩ := numD_ok d sh.2.1
  have dp := sh.2.2.2
  have fin : ∀ h' u tk, (∀ b o, s.heap.get? b = some o → h'.get? b = some o) → EP X pins σ Q (.str d.shown u) { s with heap := h', toks := tk } :=
    fun h' u tk hk => ⟨.str d.shown, H, I.kept (t' := tk) hk, ⟨u, rfl⟩, q⟩
  obtain ⟨⟨ds, hds⟩, _⟩ := sh
  have hur : ∃ b, u = .ref b := by
    rcases hds with rfl | rfl
    · cases hd with
      | tup _ _ => exact ⟨_, ru⟩
    · cases hd with
      | lst _ _ => exact ⟨_, ru⟩
  obtain ⟨b, rfl⟩ := hur
  exact repr_of_reads' rd a1 (PyData.noDict_hsm a2) hg (by omega) (fun _ _ z => z) fin (ShowD.fits ⟨⟨ds, hds⟩, by assumption⟩)
theorem abs_show : AbsCall K (rShow K) fun As m Kt => ∃ A d, As = [A] ∧ IsDat m A d ∧ ShowD d ∧ Kt (AL.str d.shown) m := by
  rintro As m Kt fr ρ σ H vs Q ⟨A, d, rfl, hd, sh, q⟩ o r g
  cases r with
  | cons r t =>
    cases t
    exact ⟨_, d, rfl, hd _ _ _ _ o.mem r, sh, g _ m _ H q (.refl _ _) o rfl⟩
theorem b_repr (a : At P w K mg base N sc df k X) (hgu : X.A.guards = some []) (hm : mg "repr" = none) {p : Pos} (hg : sc.names.lookup ("repr" : Str) = some .globalImplicit)
    (h : WA X [e] ρ m fun As m1 => ∃ A d, As = [A] ∧ IsDat m1 A d ∧ ShowD d ∧ Kt (AL.str d.shown) m1) (he : starEach (e :: []) X.env = (false, eval e X.env) :: starEach [] X.env := by rfl) (hpl : (backTo pos (starEach [] X.env)).any (·.1) = false := by rfl) :
    WE X (.Call (.Name "repr" p) [e] [] pos) ρ m Kt :=
  we_callB a (call_show hgu (hu_at a)) abs_show hg hm (by decide +kernel) h (by decide) (by decide) he hpl
theorem abs_neS : AbsOp K rNe fun A B m Kt => ∃ x y : Str, A = AL.str x ∧ B = AL.str y ∧ Kt (AL.bool (!decide (x = y))) m := by
  rintro A B m Kt fr ρ σ H u v Q ⟨x, y, rfl, rfl, q⟩ o rx ry g
  have eu : u = V.str x := rx
  have ev : v = V.str y := ry
  subst eu ev
  refine ⟨rfl, g _ m _ H q (.refl _ _) o ?_⟩
  show V.bl (!decide (V.str x = V.str y)) = V.bl (!decide (x = y))
  by_cases c : x = y
  · subst c
    simp
  · have c2 : V.str x ≠ V.str y := fun z => c (by cases z; rfl)
    rw [decide_eq_false c, decide_eq_false c2]
theorem abs_eqS : AbsOp K rEq fun A B m Kt => ∃ x y : Str, A = AL.str x ∧ B = AL.str y ∧ Kt (AL.bool (decide (x = y))) m := by
  rintro A B m Kt fr ρ σ H u v Q ⟨x, y, rfl, rfl, q⟩ o rx ry g
  have eu : u = V.str x := rx
  have ev : v = V.str y := ry
  subst eu ev
  refine ⟨rfl, g _ m _ H q (.refl _ _) o ?_⟩
  show V.bl (decide (V.str x = V.str y)) = V.bl (decide (x = y))
  by_cases c : x = y
  · subst c
    simp
  · have c2 : V.str x ≠ V.str y := fun z => c (by cases z; rfl)
    rw [decide_eq_false c, decide_eq_false c2]
end
end AL
namespace HB
open PySem PySem.Spec L2 AL
open PyProof.Rows hiding St
def topS (i : Nat) : Stmt := PySem.Challenge.pw_handlebends_k07_values_of_curves.main.body.getD i (.Pass ⟨0, 0, 0, 0⟩)
abbrev Q2 := Int × Int
abbrev qv (q : Q2) : AV := tup [AL.int q.1, AL.int q.2]
inductive IsV : AV → Q2 → Prop
  | int (n : Int) : IsV (AL.int n) (n, 1)
  | pr (p q : Int) (h : 1 ≤ q) (g : Nat.gcd p.natAbs q.natAbs = 1) : IsV (qv (p, q)) (p, q)
section
variable {P : Program} {w : World} {K : PySem.W.Frag} {mg : Str → Option Value} {base : Heap} (Z : Blt mg)
/-! ### is_whole, is_sequence -/
abbrev tys : List String := ["int", "bool", "tuple", "list", "str", "NoneType"]
def C_is_whole : CT := fun As m Kt => ∃ A t, As = [A] ∧ HasTy A t ∧ t ∈ tys ∧ Kt (AL.bool (t == "int")) m
abbrev s_is_whole : Stmt := topS 12
abbrev N_is_whole : List Str := ["thing"]
theorem sc_is_whole : FnScope N_is_whole ["thing"] (defScope s_is_whole) := ⟨rfl, rfl, rfl, by decide +kernel, rfl, by decide +kernel, by decide +kernel⟩
include Z in
theorem F_is_whole {f : Addr} {fd : FuncData} (F : Fun K "is_whole" "is_whole" s_is_whole f fd) (hm : mg "is_whole" = some (.ref f)) (hb : Binds K fd ["thing"] []) : FnC P w K mg base 1 "is_whole" C_is_whole := by
  refine fnC F sc_is_whole hm hb (fun As m Kt ⟨A, t, h, _⟩ => by rw [h]; rfl) fun X a As m Kt ⟨A, t, e1, ht, hin, q⟩ => ?_
  subst e1
  refine wss_cons ?_
  refine ws_ret ?_
  refine we_and ?_
  refine b_isinstance a rfl Z.isi ?_
  refine wa_cons ?_
  refine we_name a 0 rfl (.inl rfl) rfl ?_
  refine wa_cons ?_
  refine g_int a Z rfl ?_
  refine wa_nil ?_
  have two : ∀ {b1 b2 : Bool}, kitB t "int" = some b1 → kitB t "bool" = some b2 → (b1 && !b2) = (t == "int") → ∃ b1 b2, kitB t "int" = some b1 ∧ kitB t "bool" = some b2 ∧ (b1 && !b2) = (t == "int") := fun h1 h2 h3 => ⟨_, _, h1, h2, h3⟩
  obtain ⟨b1, b2, h1, h2, h3⟩ : ∃ b1 b2, kitB t "int" = some b1 ∧ kitB t "bool" = some b2 ∧ (b1 && !b2) = (t == "int") := by
    simp only [List.mem_cons, List.not_mem_nil, or_false] at hin
    rcases hin with rfl | rfl | rfl | rfl | rfl | rfl
    · exact ⟨true, false, by decide +kernel, by decide +kernel, by decide⟩
    · exact ⟨true, true, by decide +kernel, by decide +kernel, by decide⟩
    · exact ⟨false, false, by decide +kernel, by decide +kernel, by decide⟩
    · exact ⟨false, false, by decide +kernel, by decide +kernel, by decide⟩
    · exact ⟨false, false, by decide +kernel, by decide +kernel, by decide⟩
    · exact ⟨false, false, by decide +kernel, by decide +kernel, by decide⟩
  refine .inl ⟨_, _, _, _, rfl, ht, h1, ?_⟩
  refine ⟨_, rfl, ?_⟩
  refine br (fun e => ?_) (fun e => ?_)
  · refine we_one ?_
    refine we_not ?_
    refine b_isinstance a rfl Z.isi ?_
    refine wa_cons ?_
    refine we_name a 0 rfl (.inl rfl) rfl ?_
    refine wa_cons ?_
    refine g_bool a Z rfl ?_
    refine wa_nil ?_
    refine .inl ⟨_, _, _, _, rfl, ht, h2, ?_⟩
    refine ⟨_, rfl, ?_⟩
    rw [e, Bool.true_and] at h3
    rw [h3]
    exact bodyE.ret q
  · rw [e, Bool.false_and] at h3
    rw [h3]
    exact bodyE.ret q
end
end HB
namespace HB
open PySem PySem.Spec L2 AL
open PyProof.Rows hiding St
section
variable {P : Program} {w : World} {K : PySem.W.Frag} {mg : Str → Option Value} {base : Heap} (Z : Blt mg)
theorem tg2 {N : List Str} {sc : Scope} {df : Bool} {j1 j2 : Nat × Str × Pos} (h1 : N[j1.1]? = some j1.2.1 ∧ (sc.names.lookup j1.2.1 = some .local ∨ (df = true ∧ sc.names.lookup j1.2.1 = some .cell))) (h2 : N[j2.1]? = some j2.2.1 ∧ (sc.names.lookup j2.2.1 = some .local ∨ (df = true ∧ sc.names.lookup j2.2.1 = some .cell))) :
    ∀ j ∈ [j1, j2], N[j.1]? = some j.2.1 ∧ (sc.names.lookup j.2.1 = some .local ∨ (df = true ∧ sc.names.lookup j.2.1 = some .cell)) := fun j hj => by
  simp only [List.mem_cons, List.not_mem_nil, or_false] at hj
  rcases hj with rfl | rfl
  · exact h1
  · exact h2
def C_is_sequence : CT := fun As m Kt => ∃ A t, As = [A] ∧ HasTy A t ∧ t ∈ tys ∧ Kt (AL.bool (t == "list" || t == "tuple")) m
abbrev s_is_sequence : Stmt := topS 13
theorem sc_is_sequence : FnScope ["thing"] ["thing"] (defScope s_is_sequence) := ⟨rfl, rfl, rfl, by decide +kernel, rfl, by decide +kernel, by decide +kernel⟩
include Z in
theorem F_is_sequence {f : Addr} {fd : FuncData} (F : Fun K "is_sequence" "is_sequence" s_is_sequence f fd) (hm : mg "is_sequence" = some (.ref f)) (hb : Binds K fd ["thing"] []) : FnC P w K mg base 1 "is_sequence" C_is_sequence := by
  refine fnC F sc_is_sequence hm hb (fun As m Kt ⟨A, t, h, _⟩ => by rw [h]; rfl) fun X a As m Kt ⟨A, t, e1, ht, hin, q⟩ => ?_
  subst e1
  refine wss_cons ?_
  refine ws_ret ?_
  refine b_isinstance a rfl Z.isi ?_
  refine wa_cons ?_
  refine we_name a 0 rfl (.inl rfl) rfl ?_
  refine wa_cons ?_
  refine we_tup ?_
  refine wa_cons ?_
  refine g_list a Z rfl ?_
  refine wa_cons ?_
  refine g_tuple a Z rfl ?_
  refine wa_nil ?_
  refine ⟨by decide, ?_⟩
  refine wa_nil ?_
  obtain ⟨b1, b2, h1, h2, h3⟩ : ∃ b1 b2, kitB t "list" = some b1 ∧ kitB t "tuple" = some b2 ∧ (b1 || b2) = (t == "list" || t == "tuple") := by
    simp only [List.mem_cons, List.not_mem_nil, or_false] at hin
    rcases hin with rfl | rfl | rfl | rfl | rfl | rfl
    · exact ⟨false, false, by decide +kernel, by decide +kernel, by decide⟩
    · exact ⟨false, false, by decide +kernel, by decide +kernel, by decide⟩
    · exact ⟨false, true, by decide +kernel, by decide +kernel, by decide⟩
    · exact ⟨true, false, by decide +kernel, by decide +kernel, by decide⟩
    · exact ⟨false, false, by decide +kernel, by decide +kernel, by decide⟩
    · exact ⟨false, false, by decide +kernel, by decide +kernel, by decide⟩
  refine .inr ⟨_, _, _, _, _, _, rfl, ht, h1, h2, ?_⟩
  rw [h3]
  exact bodyE.ret q
/-! ### is_value -/
def C_is_value : CT := fun As m Kt => ∃ A q, As = [A] ∧ IsV A q ∧ Kt (AL.bool true) m
abbrev s_is_value : Stmt := topS 14
theorem sc_is_value : FnScope ["thing", "p", "q"] ["thing"] (defScope s_is_value) := ⟨rfl, rfl, rfl, by decide +kernel, rfl, by decide +kernel, by decide +kernel⟩
include Z in
theorem F_is_value (G : FnC P w K mg base 1 "is_whole" C_is_whole) {f : Addr} {fd : FuncData} (F : Fun K "is_value" "is_value" s_is_value f fd) (hm : mg "is_value" = some (.ref f)) (hb : Binds K fd ["thing"] []) : FnC P w K mg base 2 "is_value" C_is_value := by
  refine fnC F sc_is_value hm hb (fun As m Kt ⟨A, t, h, _⟩ => by rw [h]; rfl) fun X a As m Kt ⟨A, t, e1, ht, q⟩ => ?_
  subst e1
  cases ht with
  | int n =>
    refine wss_cons ?_
    refine ws_if ?_
    refine wt_val ?_
    refine we_call a G (by decide) rfl ?_
    refine wa_cons ?_
    refine we_name a 0 rfl (.inl rfl) rfl ?_
    refine wa_nil ?_
    refine ⟨[], _, rfl, _, _, rfl, ty_int, by decide, ?_⟩
    refine ⟨_, rfl, ?_⟩
    refine brT (by decide) ?_
    refine wss_cons ?_
    refine ws_ret ?_
    refine we_bool ?_
    exact bodyE.ret q
  | pr p r h g =>
    refine wss_cons ?_
    refine ws_if ?_
    refine wt_val ?_
    refine we_call a G (by decide) rfl ?_
    refine wa_cons ?_
    refine we_name a 0 rfl (.inl rfl) rfl ?_
    refine wa_nil ?_
    refine ⟨[], _, rfl, _, _, rfl, ty_tup, by decide, ?_⟩
    refine ⟨_, rfl, ?_⟩
    refine brF (by decide) ?_
    refine wss_nil ?_
    refine wss_cons ?_
    refine ws_if ?_
    refine wt_of ?_
    refine ww_or ?_
    refine wt_not ?_
    refine wt_val ?_
    refine b_isinstance a rfl Z.isi ?_
    refine wa_cons ?_
    refine we_name a 0 rfl (.inl rfl) rfl ?_
    refine wa_cons ?_
    refine g_tuple a Z rfl ?_
    refine wa_nil ?_
    refine .inl ⟨_, _, _, true, rfl, ty_tup, by decide +kernel, ?_⟩
    refine ⟨_, rfl, ?_⟩
    refine brF (by decide) ?_
    refine ww_or1 ?_
    refine wt_icmp op_neI rfl ?_
    refine b_len a Z rfl ?_
    refine wa_cons ?_
    refine we_name a 0 rfl (.inl rfl) rfl ?_
    refine wa_nil ?_
    refine ⟨_, _, rfl, isSq_tup, ?_⟩
    refine we_int ?_
    refine ⟨_, _, rfl, rfl, ?_⟩
    refine brF rfl ?_
    refine wss_nil ?_
    refine wss_cons ?_
    refine ws_asg ?_
    refine we_name a 0 rfl (.inl rfl) rfl ?_
    refine wg_tup a [(1, "p", _), (2, "q", _)] rfl rfl rfl (tg2 ⟨rfl, .inl rfl⟩ ⟨rfl, .inl rfl⟩) rfl rfl ?_
    refine wss_cons ?_
    refine ws_ret ?_
    refine we_and ?_
    refine we_call a G (by decide) rfl ?_
    refine wa_cons ?_
    refine we_name a 1 rfl (.inl rfl) rfl ?_
    refine wa_nil ?_
    refine ⟨[], _, rfl, _, _, rfl, ty_int, by decide, ?_⟩
    refine ⟨_, rfl, ?_⟩
    refine brT (by decide) ?_
    refine we_and ?_
    refine we_call a G (by decide) rfl ?_
    refine wa_cons ?_
    refine we_name a 2 rfl (.inl rfl) rfl ?_
    refine wa_nil ?_
    refine ⟨[], _, rfl, _, _, rfl, ty_int, by decide, ?_⟩
    refine ⟨_, rfl, ?_⟩
    refine brT (by decide) ?_
    refine we_and ?_
    refine we_icmp op_ge rfl ?_
    refine we_name a 2 rfl (.inl rfl) rfl ?_
    refine we_int ?_
    refine ⟨_, _, rfl, rfl, ?_⟩
    refine ⟨_, rfl, ?_⟩
    refine brT (decide_eq_true h) ?_
    refine we_one ?_
    refine we_icmp op_eqI rfl ?_
    refine b_gcd a Z rfl ?_
    refine wa_cons ?_
    refine we_name a 1 rfl (.inl rfl) rfl ?_
    refine wa_cons ?_
    refine we_name a 2 rfl (.inl rfl) rfl ?_
    refine wa_nil ?_
    refine ⟨_, _, rfl, ?_⟩
    refine we_int ?_
    refine ⟨_, _, rfl, rfl, ?_⟩
    rw [g]
    exact bodyE.ret q
end
end HB
namespace HB
open PySem PySem.Spec L2 AL
open PyProof.Rows hiding St
/-! ### fractions -/
def gcdI (p q : Int) : Int := (Nat.gcd p.natAbs q.natAbs : Nat)
def ratioM (p q : Int) : Q2 := (p / gcdI p q, q / gcdI p q)
def OkR (q : Int) : Prop := q ≠ 0 ∧ q.natAbs < 2 ^ 8999
theorem okR_div {p q : Int} (h : OkR q) : CDivW p (gcdI p q) ∧ CDivW q (gcdI p q) := by
  have h0 : 0 < Nat.gcd p.natAbs q.natAbs := Nat.gcd_pos_of_pos_right _ (by have := h.1; omega)
  have h1 : Nat.gcd p.natAbs q.natAbs ≤ q.natAbs := Nat.gcd_le_right _ (by have := h.1; omega)
  have h2 : (gcdI p q).natAbs < 2 ^ 8999 := by unfold gcdI; rw [Int.natAbs_natCast]; exact Nat.lt_of_le_of_lt h1 h.2
  exact ⟨wide_div (by unfold gcdI; omega) h2 (by decide) (by decide), wide_div (by unfold gcdI; omega) h2 (by decide) (by decide)⟩
abbrev B4 : Nat := 2 ^ 4000
def Sm (x : Int) : Prop := x.natAbs < B4
structure SmQ (a : Q2) : Prop where
  n : Sm a.1
  d : Sm a.2
  z : a.2 ≠ 0
theorem sm_mul {x y : Int} (hx : Sm x) (hy : Sm y) : CMulW x y := wide_mul (a := 4000) (b := 4000) hx hy (by decide) (by decide) (by decide)
theorem sm_okR {x y : Int} (hx : Sm x) (hy : Sm y) (h1 : x ≠ 0) (h2 : y ≠ 0) : OkR (x * y) :=
  ⟨Int.mul_ne_zero h1 h2, Nat.lt_of_lt_of_le (wide_lt hx hy) (Nat.pow_le_pow_right (by decide) (by decide))⟩
def addM (a b : Q2) : Q2 := ratioM (a.1 * b.2 + b.1 * a.2) (a.2 * b.2)
def subM (a b : Q2) : Q2 := ratioM (a.1 * b.2 - b.1 * a.2) (a.2 * b.2)
def mulM (a b : Q2) : Q2 := ratioM (a.1 * b.1) (a.2 * b.2)
def divM (a b : Q2) : Q2 := ratioM (a.1 * b.2) (a.2 * b.1)
def lessM (a b : Q2) : Bool := decide (a.1 * b.2 < b.1 * a.2)
section
variable {P : Program} {w : World} {K : PySem.W.Frag} {mg : Str → Option Value} {base : Heap} (Z : Blt mg)
variable {N : List Str} {sc : Scope} {df : Bool} {k : Nat} {X : Cx} {ρ : Rho} {m : Mem} {Kt : KA} {pos : Pos}
theorem ix0 (a : At P w K mg base N sc df k X) (i : Nat) {x : Str} {j} {p1 p2 : Pos} {q : Q2} (hN : N[i]? = some x) (hv : sc.names.lookup x = some .local ∨ sc.names.lookup x = some .cell ∨ sc.names.lookup x = some .free) (hA : ρ[i]? = some (some (qv q))) (h : Kt (AL.int q.1) m)
    (hd : (x == ("__debug__" : Str)) = false := by decide) (hcd : (x == ("__classdict__" : Str)) = false := by decide) : WE X (.Subscript (.Name x p1) (.Constant (.int 0) j p2) pos) ρ m Kt :=
  we_ix (we_name a i hN hv hA (we_int ⟨_, _, _, isSq_tup, rfl, rfl, h⟩) hd hcd) (fun _ _ => rfl)
theorem ix1 (a : At P w K mg base N sc df k X) (i : Nat) {x : Str} {j} {p1 p2 : Pos} {q : Q2} (hN : N[i]? = some x) (hv : sc.names.lookup x = some .local ∨ sc.names.lookup x = some .cell ∨ sc.names.lookup x = some .free) (hA : ρ[i]? = some (some (qv q))) (h : Kt (AL.int q.2) m)
    (hd : (x == ("__debug__" : Str)) = false := by decide) (hcd : (x == ("__classdict__" : Str)) = false := by decide) : WE X (.Subscript (.Name x p1) (.Constant (.int 1) j p2) pos) ρ m Kt :=
  we_ix (we_name a i hN hv hA (we_int ⟨_, _, _, isSq_tup, rfl, rfl, h⟩) hd hcd) (fun _ _ => rfl)
def C_ratio : CT := fun As m Kt => ∃ p q, As = [AL.int p, AL.int q] ∧ OkR q ∧ Kt (qv (ratioM p q)) m
abbrev s_ratio : Stmt := topS 18
theorem sc_ratio : FnScope ["p", "q", "shared"] ["p", "q"] (defScope s_ratio) := ⟨rfl, rfl, rfl, by decide +kernel, rfl, by decide +kernel, by decide +kernel⟩
include Z in
theorem F_ratio {f : Addr} {fd : FuncData} (F : Fun K "ratio" "ratio" s_ratio f fd) (hm : mg "ratio" = some (.ref f)) (hb : Binds K fd ["p", "q"] []) : FnC P w K mg base 1 "ratio" C_ratio := by
  refine fnC F sc_ratio hm hb (fun As m Kt ⟨p, q, h, _⟩ => by rw [h]; rfl) fun X a As m Kt ⟨p, q, e1, ok, k⟩ => ?_
  subst e1
  refine wss_cons ?_
  refine ws_set a 2 rfl (.inl rfl) ?_
  refine b_gcd a Z rfl ?_
  refine wa_cons ?_
  refine we_name a 0 rfl (.inl rfl) rfl ?_
  refine wa_cons ?_
  refine we_name a 1 rfl (.inl rfl) rfl ?_
  refine wa_nil ?_
  refine ⟨_, _, rfl, ?_⟩
  refine wss_cons ?_
  refine ws_ret ?_
  refine we_tup ?_
  refine wa_cons ?_
  refine we_fdiv ?_
  refine we_name a 0 rfl (.inl rfl) rfl ?_
  refine we_name a 2 rfl (.inl rfl) rfl ?_
  refine ⟨_, _, rfl, rfl, (okR_div ok).1, ?_⟩
  refine wa_cons ?_
  refine we_fdiv ?_
  refine we_name a 1 rfl (.inl rfl) rfl ?_
  refine we_name a 2 rfl (.inl rfl) rfl ?_
  refine ⟨_, _, rfl, rfl, (okR_div ok).2, ?_⟩
  refine wa_nil ?_
  refine ⟨(by decide : 2 ≤ 1000), ?_⟩
  exact bodyE.ret k
/-- the four operations -/
def C_op (f : Q2 → Q2 → Q2) : CT := fun As m Kt => ∃ x y, As = [qv x, qv y] ∧ SmQ x ∧ SmQ y ∧ Kt (qv (f x y)) m
def C_div : CT := fun As m Kt => ∃ x y, As = [qv x, qv y] ∧ SmQ x ∧ SmQ y ∧ y.1 ≠ 0 ∧ Kt (qv (divM x y)) m
abbrev s_added : Stmt := topS 19
abbrev s_taken : Stmt := topS 20
abbrev s_multiplied : Stmt := topS 21
abbrev s_divided : Stmt := topS 22
theorem sc_added : FnScope ["a", "b"] ["a", "b"] (defScope s_added) := ⟨rfl, rfl, rfl, by decide +kernel, rfl, by decide +kernel, by decide +kernel⟩
theorem sc_taken : FnScope ["a", "b"] ["a", "b"] (defScope s_taken) := ⟨rfl, rfl, rfl, by decide +kernel, rfl, by decide +kernel, by decide +kernel⟩
theorem sc_multiplied : FnScope ["a", "b"] ["a", "b"] (defScope s_multiplied) := ⟨rfl, rfl, rfl, by decide +kernel, rfl, by decide +kernel, by decide +kernel⟩
theorem sc_divided : FnScope ["a", "b"] ["a", "b"] (defScope s_divided) := ⟨rfl, rfl, rfl, by decide +kernel, rfl, by decide +kernel, by decide +kernel⟩
variable (R : FnC P w K mg base 1 "ratio" C_ratio)
include R in
theorem F_added {f : Addr} {fd : FuncData} (F : Fun K "added" "added" s_added f fd) (hm : mg "added" = some (.ref f)) (hb : Binds K fd ["a", "b"] []) : FnC P w K mg base 2 "added" (C_op addM) := by
  refine fnC F sc_added hm hb (fun As m Kt ⟨p, q, h, _⟩ => by rw [h]; rfl) fun X a As m Kt ⟨x, y, e1, hx, hy, k⟩ => ?_
  subst e1
  refine wss_cons ?_
  refine ws_ret ?_
  refine we_call a R (by decide) rfl ?_
  refine wa_cons ?_
  refine we_add ?_
  refine we_mul ?_
  refine ix0 a 0 rfl (.inl rfl) rfl ?_
  refine ix1 a 1 rfl (.inl rfl) rfl ?_
  refine ⟨_, _, rfl, rfl, sm_mul hx.n hy.d, ?_⟩
  refine we_mul ?_
  refine ix0 a 1 rfl (.inl rfl) rfl ?_
  refine ix1 a 0 rfl (.inl rfl) rfl ?_
  refine ⟨_, _, rfl, rfl, sm_mul hy.n hx.d, ?_⟩
  refine ⟨_, _, rfl, rfl, ?_⟩
  refine wa_cons ?_
  refine we_mul ?_
  refine ix1 a 0 rfl (.inl rfl) rfl ?_
  refine ix1 a 1 rfl (.inl rfl) rfl ?_
  refine ⟨_, _, rfl, rfl, sm_mul hx.d hy.d, ?_⟩
  refine wa_nil ?_
  refine ⟨[], m, rfl, _, _, rfl, sm_okR hx.d hy.d hx.z hy.z, ?_⟩
  exact bodyE.ret k
include R in
theorem F_taken {f : Addr} {fd : FuncData} (F : Fun K "taken" "taken" s_taken f fd) (hm : mg "taken" = some (.ref f)) (hb : Binds K fd ["a", "b"] []) : FnC P w K mg base 2 "taken" (C_op subM) := by
  refine fnC F sc_taken hm hb (fun As m Kt ⟨p, q, h, _⟩ => by rw [h]; rfl) fun X a As m Kt ⟨x, y, e1, hx, hy, k⟩ => ?_
  subst e1
  refine wss_cons ?_
  refine ws_ret ?_
  refine we_call a R (by decide) rfl ?_
  refine wa_cons ?_
  refine we_sub ?_
  refine we_mul ?_
  refine ix0 a 0 rfl (.inl rfl) rfl ?_
  refine ix1 a 1 rfl (.inl rfl) rfl ?_
  refine ⟨_, _, rfl, rfl, sm_mul hx.n hy.d, ?_⟩
  refine we_mul ?_
  refine ix0 a 1 rfl (.inl rfl) rfl ?_
  refine ix1 a 0 rfl (.inl rfl) rfl ?_
  refine ⟨_, _, rfl, rfl, sm_mul hy.n hx.d, ?_⟩
  refine ⟨_, _, rfl, rfl, ?_⟩
  refine wa_cons ?_
  refine we_mul ?_
  refine ix1 a 0 rfl (.inl rfl) rfl ?_
  refine ix1 a 1 rfl (.inl rfl) rfl ?_
  refine ⟨_, _, rfl, rfl, sm_mul hx.d hy.d, ?_⟩
  refine wa_nil ?_
  refine ⟨[], m, rfl, _, _, rfl, sm_okR hx.d hy.d hx.z hy.z, ?_⟩
  exact bodyE.ret k
include R in
theorem F_multiplied {f : Addr} {fd : FuncData} (F : Fun K "multiplied" "multiplied" s_multiplied f fd) (hm : mg "multiplied" = some (.ref f)) (hb : Binds K fd ["a", "b"] []) : FnC P w K mg base 2 "multiplied" (C_op mulM) := by
  refine fnC F sc_multiplied hm hb (fun As m Kt ⟨p, q, h, _⟩ => by rw [h]; rfl) fun X a As m Kt ⟨x, y, e1, hx, hy, k⟩ => ?_
  subst e1
  refine wss_cons ?_
  refine ws_ret ?_
  refine we_call a R (by decide) rfl ?_
  refine wa_cons ?_
  refine we_mul ?_
  refine ix0 a 0 rfl (.inl rfl) rfl ?_
  refine ix0 a 1 rfl (.inl rfl) rfl ?_
  refine ⟨_, _, rfl, rfl, sm_mul hx.n hy.n, ?_⟩
  refine wa_cons ?_
  refine we_mul ?_
  refine ix1 a 0 rfl (.inl rfl) rfl ?_
  refine ix1 a 1 rfl (.inl rfl) rfl ?_
  refine ⟨_, _, rfl, rfl, sm_mul hx.d hy.d, ?_⟩
  refine wa_nil ?_
  refine ⟨[], m, rfl, _, _, rfl, sm_okR hx.d hy.d hx.z hy.z, ?_⟩
  exact bodyE.ret k
include R in
theorem F_divided {f : Addr} {fd : FuncData} (F : Fun K "divided" "divided" s_divided f fd) (hm : mg "divided" = some (.ref f)) (hb : Binds K fd ["a", "b"] []) : FnC P w K mg base 2 "divided" C_div := by
  refine fnC F sc_divided hm hb (fun As m Kt ⟨p, q, h, _⟩ => by rw [h]; rfl) fun X a As m Kt ⟨x, y, e1, hx, hy, hz, k⟩ => ?_
  subst e1
  refine wss_cons ?_
  refine ws_ret ?_
  refine we_call a R (by decide) rfl ?_
  refine wa_cons ?_
  refine we_mul ?_
  refine ix0 a 0 rfl (.inl rfl) rfl ?_
  refine ix1 a 1 rfl (.inl rfl) rfl ?_
  refine ⟨_, _, rfl, rfl, sm_mul hx.n hy.d, ?_⟩
  refine wa_cons ?_
  refine we_mul ?_
  refine ix1 a 0 rfl (.inl rfl) rfl ?_
  refine ix0 a 1 rfl (.inl rfl) rfl ?_
  refine ⟨_, _, rfl, rfl, sm_mul hx.d hy.n, ?_⟩
  refine wa_nil ?_
  refine ⟨[], m, rfl, _, _, rfl, sm_okR hx.d hy.n hx.z hz, ?_⟩
  exact bodyE.ret k
def C_less : CT := fun As m Kt => ∃ x y, As = [qv x, qv y] ∧ SmQ x ∧ SmQ y ∧ Kt (AL.bool (lessM x y)) m
abbrev s_is_less : Stmt := topS 24
theorem sc_is_less : FnScope ["a", "b"] ["a", "b"] (defScope s_is_less) := ⟨rfl, rfl, rfl, by decide +kernel, rfl, by decide +kernel, by decide +kernel⟩
theorem F_is_less {f : Addr} {fd : FuncData} (F : Fun K "is_less" "is_less" s_is_less f fd) (hm : mg "is_less" = some (.ref f)) (hb : Binds K fd ["a", "b"] []) : FnC P w K mg base 1 "is_less" C_less := by
  refine fnC F sc_is_less hm hb (fun As m Kt ⟨p, q, h, _⟩ => by rw [h]; rfl) fun X a As m Kt ⟨x, y, e1, hx, hy, k⟩ => ?_
  subst e1
  refine wss_cons ?_
  refine ws_ret ?_
  refine we_icmp op_lt rfl ?_
  refine we_mul ?_
  refine ix0 a 0 rfl (.inl rfl) rfl ?_
  refine ix1 a 1 rfl (.inl rfl) rfl ?_
  refine ⟨_, _, rfl, rfl, sm_mul hx.n hy.d, ?_⟩
  refine we_mul ?_
  refine ix0 a 1 rfl (.inl rfl) rfl ?_
  refine ix1 a 0 rfl (.inl rfl) rfl ?_
  refine ⟨_, _, rfl, rfl, sm_mul hy.n hx.d, ?_⟩
  refine ⟨_, _, rfl, rfl, ?_⟩
  exact bodyE.ret k
/-! ### pair, pairs, are_values -/
def C_pair : CT := fun As m Kt => ∃ A q, As = [A] ∧ IsV A q ∧ Kt (qv q) m
abbrev s_pair : Stmt := topS 16
theorem sc_pair : FnScope ["worth"] ["worth"] (defScope s_pair) := ⟨rfl, rfl, rfl, by decide +kernel, rfl, by decide +kernel, by decide +kernel⟩
include Z in
theorem F_pair {f : Addr} {fd : FuncData} (F : Fun K "pair" "pair" s_pair f fd) (hm : mg "pair" = some (.ref f)) (hb : Binds K fd ["worth"] []) : FnC P w K mg base 1 "pair" C_pair := by
  refine fnC F sc_pair hm hb (fun As m Kt ⟨p, q, h, _⟩ => by rw [h]; rfl) fun X a As m Kt ⟨A, q, e1, hq, k⟩ => ?_
  subst e1
  cases hq with
  | int n =>
    refine wss_cons ?_
    refine ws_ret ?_
    refine we_ifexp ?_
    refine wt_val ?_
    refine b_isinstance a rfl Z.isi ?_
    refine wa_cons ?_
    refine we_name a 0 rfl (.inl rfl) rfl ?_
    refine wa_cons ?_
    refine g_tuple a Z rfl ?_
    refine wa_nil ?_
    refine .inl ⟨_, _, _, false, rfl, ty_int, by decide +kernel, ?_⟩
    refine ⟨_, rfl, ?_⟩
    refine brF rfl ?_
    refine we_tup ?_
    refine wa_cons ?_
    refine we_name a 0 rfl (.inl rfl) rfl ?_
    refine wa_cons ?_
    refine we_int ?_
    refine wa_nil ?_
    refine ⟨(by decide : 2 ≤ 1000), ?_⟩
    exact bodyE.ret k
  | pr p r h g =>
    refine wss_cons ?_
    refine ws_ret ?_
    refine we_ifexp ?_
    refine wt_val ?_
    refine b_isinstance a rfl Z.isi ?_
    refine wa_cons ?_
    refine we_name a 0 rfl (.inl rfl) rfl ?_
    refine wa_cons ?_
    refine g_tuple a Z rfl ?_
    refine wa_nil ?_
    refine .inl ⟨_, _, _, true, rfl, ty_tup, by decide +kernel, ?_⟩
    refine ⟨_, rfl, ?_⟩
    refine brT rfl ?_
    refine we_name a 0 rfl (.inl rfl) rfl ?_
    exact bodyE.ret k
abbrev IsVs : List AV → List Q2 → Prop := Paired IsV
theorem IsVs.get {Bs : List AV} {qs : List Q2} (h : IsVs Bs qs) : ∀ {i : Nat} {A : AV}, Bs[i]? = some A → ∃ q, qs[i]? = some q ∧ IsV A q := by
  induction h with
  | nil => intro i A e; simp at e
  | cons r t ih =>
    intro i A e
    cases i with
    | zero => simp at e; subst e; exact ⟨_, rfl, r⟩
    | succ i => simp at e; simpa using ih e
/-- a list or a tuple -/
def IsSeqA (A : AV) (Bs : List AV) : Prop := A = lst Bs ∨ A = tup Bs
theorem IsSeqA.sq {m : Mem} {A : AV} {Bs : List AV} (h : IsSeqA A Bs) : IsSq m A Bs := by
  rcases h with rfl | rfl
  · exact isSq_lst
  · exact isSq_tup
theorem wi_seq {X : Cx} {ρ : Rho} {m : Mem} {tg e : Expr} {Ki : List AV → Mem → Prop} {As : List AV} (hA : ∃ A, IsSeqA A As ∧ ∀ Kt : KA, Kt A m → WE X e ρ m Kt) (k : Ki As m) : WI X tg e ρ m Ki := by
  obtain ⟨A, h, w⟩ := hA
  rcases h with rfl | rfl
  · exact wi_list (w _ ⟨As, rfl, k⟩)
  · exact wi_tup (w _ ⟨As, rfl, k⟩)
def C_pairs : CT := fun As m Kt => ∃ A Bs qs, As = [A] ∧ IsSeqA A Bs ∧ IsVs Bs qs ∧ Bs.length ≤ 1000 ∧ Kt (tup (qs.map qv)) m
abbrev s_pairs : Stmt := topS 17
theorem sc_pairs : FnScope ["worths", "worth"] ["worths"] (defScope s_pairs) := ⟨rfl, rfl, rfl, by decide +kernel, rfl, by decide +kernel, by decide +kernel⟩
include Z in
theorem F_pairs (G : FnC P w K mg base 1 "pair" C_pair) {f : Addr} {fd : FuncData} (F : Fun K "pairs" "pairs" s_pairs f fd) (hm : mg "pairs" = some (.ref f)) (hb : Binds K fd ["worths"] []) : FnC P w K mg base 2 "pairs" C_pairs := by
  refine fnC F sc_pairs hm hb (fun As m Kt ⟨A, Bs, qs, h, _⟩ => by rw [h]; rfl) fun X a As m Kt ⟨A, Bs, qs, e1, hs, hv, hl, k⟩ => ?_
  subst e1
  refine wss_cons ?_
  refine ws_ret ?_
  refine b_tuple a Z rfl ?_
  refine wa_cons ?_
  refine WN.we (wn_lc1 a 1 (by decide +kernel) rfl rfl ?_)
  refine wi_seq ⟨A, hs, fun Kt k => we_name a 0 rfl (.inl rfl) rfl k⟩ ?_
  have ql : qs.length = Bs.length := (Paired.length hv).symm
  refine ⟨hl, fun i acc m' => m' = m ∧ acc = (qs.map qv).take i, ⟨rfl, by simp⟩, fun i acc m2 A hA hW X' hX => ?_, fun acc m2 hW => ?_⟩
  · obtain ⟨rfl, rfl⟩ := hW
    have b := hX.at_ a
    obtain ⟨q, hq, hv'⟩ := hv.get hA
    refine we_call b G (by decide) rfl ?_
    refine wa_cons ?_
    refine we_name b 1 rfl (.inl rfl) rfl ?_
    refine wa_nil ?_
    refine ⟨[], _, rfl, _, _, rfl, hv', ?_⟩
    refine ⟨rfl, ?_⟩
    rw [List.take_add_one, List.getElem?_map, hq]
    rfl
  · obtain ⟨rfl, rfl⟩ := hW
    refine wa_nil ?_
    refine .inl ⟨_, _, rfl, isLs_lst, ?_⟩
    rw [List.take_of_length_le (by rw [List.length_map, ql]; exact Nat.le_refl _)]
    exact bodyE.ret k
def C_are_values : CT := fun As m Kt => ∃ A Bs qs, As = [A] ∧ IsSeqA A Bs ∧ IsVs Bs qs ∧ Bs.length ≤ 1000 ∧ Kt (AL.bool true) m
abbrev s_are_values : Stmt := topS 15
theorem sc_are_values : FnScope ["thing", "part"] ["thing"] (defScope s_are_values) := ⟨rfl, rfl, rfl, by decide +kernel, rfl, by decide +kernel, by decide +kernel⟩
include Z in
theorem F_are_values (G : FnC P w K mg base 2 "is_value" C_is_value) (G2 : FnC P w K mg base 1 "is_sequence" C_is_sequence) {f : Addr} {fd : FuncData} (F : Fun K "are_values" "are_values" s_are_values f fd) (hm : mg "are_values" = some (.ref f)) (hb : Binds K fd ["thing"] []) : FnC P w K mg base 3 "are_values" C_are_values := by
  refine fnC F sc_are_values hm hb (fun As m Kt ⟨A, Bs, qs, h, _⟩ => by rw [h]; rfl) fun X a As m Kt ⟨A, Bs, qs, e1, hs, hv, hl, k⟩ => ?_
  subst e1
  refine wss_cons ?_
  refine ws_ret ?_
  refine we_and ?_
  refine we_call a G2 (by decide) rfl ?_
  refine wa_cons ?_
  refine we_name a 0 rfl (.inl rfl) rfl ?_
  refine wa_nil ?_
  have ht : ∃ t, HasTy A t ∧ t ∈ tys ∧ (t == "list" || t == "tuple") = true := by
    rcases hs with rfl | rfl
    · exact ⟨_, ty_lst, by decide, by decide⟩
    · exact ⟨_, ty_tup, by decide, by decide⟩
  obtain ⟨t, ht, h1, h2⟩ := ht
  refine ⟨[], _, rfl, _, t, rfl, ht, h1, ?_⟩
  refine ⟨_, rfl, ?_⟩
  refine brT h2 ?_
  refine we_one ?_
  refine b_all a Z rfl ?_
  refine wa_cons ?_
  refine WN.we (wn_lc1 a 1 (by decide +kernel) rfl rfl ?_)
  refine wi_seq ⟨A, hs, fun Kt k => we_name a 0 rfl (.inl rfl) rfl k⟩ ?_
  refine ⟨hl, fun i acc m' => m' = m ∧ acc = List.replicate i (AL.bool true), ⟨rfl, rfl⟩, fun i acc m2 A hA hW X' hX => ?_, fun acc m2 hW => ?_⟩
  · obtain ⟨rfl, rfl⟩ := hW
    have b := hX.at_ a
    obtain ⟨q, hq, hv'⟩ := hv.get hA
    refine we_call b G (by decide) rfl ?_
    refine wa_cons ?_
    refine we_name b 1 rfl (.inl rfl) rfl ?_
    refine wa_nil ?_
    refine ⟨[], _, rfl, _, _, rfl, hv', ?_⟩
    exact ⟨rfl, by rw [List.replicate_succ']⟩
  · obtain ⟨rfl, rfl⟩ := hW
    refine wa_nil ?_
    refine ⟨List.replicate Bs.length true, by rw [List.map_replicate], ?_⟩
    have e : (List.replicate Bs.length true).all id = true := by simp
    rw [e]
    exact bodyE.ret k
end
end HB
namespace HB
open PySem PySem.Spec L2 AL
open PyProof.Rows hiding St
/-! ### mirrors that tell also where sizes end -/
def smB (q : Q2) : Bool := decide (q.1.natAbs < B4) && decide (q.2.natAbs < B4) && decide (q.2 ≠ 0)
theorem smB_ok {q : Q2} (h : smB q = true) : SmQ q := by
  unfold smB at h
  simp only [Bool.and_eq_true, decide_eq_true_eq] at h
  exact ⟨h.1.1, h.1.2, h.2⟩
def guardO {α : Type} (c : Bool) (x : Option α) : Option α := if c = true then x else none
theorem guardO_some {α : Type} {c : Bool} {x : Option α} {r : α} (h : guardO c x = some r) : c = true ∧ x = some r := by
  unfold guardO at h
  split at h
  · exact ⟨‹_›, h⟩
  · cases h
def opO (f : Q2 → Q2 → Q2) (x y : Q2) : Option Q2 := guardO (smB x && smB y) (some (f x y))
theorem opO_some {f : Q2 → Q2 → Q2} {x y r : Q2} (h : opO f x y = some r) : SmQ x ∧ SmQ y ∧ r = f x y := by
  obtain ⟨h1, h2⟩ := guardO_some h
  rw [Bool.and_eq_true] at h1
  exact ⟨smB_ok h1.1, smB_ok h1.2, (Option.some.inj h2).symm⟩
def addO := opO addM
def subO := opO subM
def mulO := opO mulM
def divO (x y : Q2) : Option Q2 := guardO (decide (y.1 ≠ 0)) (opO divM x y)
theorem divO_some {x y r : Q2} (h : divO x y = some r) : SmQ x ∧ SmQ y ∧ y.1 ≠ 0 ∧ r = divM x y := by
  obtain ⟨h1, h2⟩ := guardO_some h
  obtain ⟨a, b, c⟩ := opO_some h2
  exact ⟨a, b, of_decide_eq_true h1, c⟩
abbrev Q0 : Q2 := (0, 1)
abbrev Q1 : Q2 := (1, 1)
def totalO (l : List Q2) : Option Q2 := l.foldlM addO Q0
section
variable {P : Program} {w : World} {K : PySem.W.Frag} {mg : Str → Option Value} {base : Heap} (Z : Blt mg)
variable {N : List Str} {sc : Scope} {df : Bool} {k : Nat} {X : Cx} {ρ : Rho} {m : Mem} {Kt : KA} {pos : Pos} {e f : Expr}
/-- a call of one of the operations -/
def C_opO (f : Q2 → Q2 → Option Q2) : CT := fun As m Kt => ∃ x y r, As = [qv x, qv y] ∧ f x y = some r ∧ Kt (qv r) m
theorem FnC.weak {j : Nat} {x : Str} {C C' : CT} (F : FnC P w K mg base j x C) (h : ∀ As m Kt, C' As m Kt → C As m Kt) : FnC P w K mg base j x C' := by
  obtain ⟨f, fd, ps, F, h2⟩ := F
  exact ⟨f, fd, ps, F.imp (fun vs H Q E ⟨fr, As, m, Kt, hc, r⟩ => ⟨fr, As, m, Kt, h _ _ _ hc, r⟩), h2⟩
theorem F_addO (F : FnC P w K mg base 2 "added" (C_op addM)) : FnC P w K mg base 2 "added" (C_opO addO) := FnC.weak F fun As m Kt ⟨x, y, r, e, h, k⟩ => by
  obtain ⟨h1, h2, rfl⟩ := opO_some h
  exact ⟨x, y, e, h1, h2, k⟩
theorem F_subO (F : FnC P w K mg base 2 "taken" (C_op subM)) : FnC P w K mg base 2 "taken" (C_opO subO) := FnC.weak F fun As m Kt ⟨x, y, r, e, h, k⟩ => by
  obtain ⟨h1, h2, rfl⟩ := opO_some h
  exact ⟨x, y, e, h1, h2, k⟩
theorem F_mulO (F : FnC P w K mg base 2 "multiplied" (C_op mulM)) : FnC P w K mg base 2 "multiplied" (C_opO mulO) := FnC.weak F fun As m Kt ⟨x, y, r, e, h, k⟩ => by
  obtain ⟨h1, h2, rfl⟩ := opO_some h
  exact ⟨x, y, e, h1, h2, k⟩
theorem F_divO (F : FnC P w K mg base 2 "divided" C_div) : FnC P w K mg base 2 "divided" (C_opO divO) := FnC.weak F fun As m Kt ⟨x, y, r, e, h, k⟩ => by
  obtain ⟨h1, h2, h3, rfl⟩ := divO_some h
  exact ⟨x, y, e, h1, h2, h3, k⟩
def lessO (x y : Q2) : Option Bool := guardO (smB x && smB y) (some (lessM x y))
def C_lessO : CT := fun As m Kt => ∃ x y r, As = [qv x, qv y] ∧ lessO x y = some r ∧ Kt (AL.bool r) m
theorem F_lessO (F : FnC P w K mg base 1 "is_less" C_less) : FnC P w K mg base 1 "is_less" C_lessO := FnC.weak F fun As m Kt ⟨x, y, r, e, h, k⟩ => by
  obtain ⟨h1, h2⟩ := guardO_some h
  rw [Bool.and_eq_true] at h1
  cases h2
  exact ⟨x, y, e, smB_ok h1.1, smB_ok h1.2, k⟩
/-- a module's pair -/
def KPair (K : PySem.W.Frag) (mg : Str → Option Value) (x : Str) (q : Q2) : Prop := ∃ z, mg x = some (.ref z) ∧ KSeq K "tuple" z [V.int q.1, V.int q.2]
theorem g_pair (a : At P w K mg base N sc df k X) {x : Str} {q : Q2} (h : KPair K mg x q) (hg : sc.names.lookup x = some .globalImplicit) (q' : Kt (qv q) m) (hd : (x == ("__debug__" : Str)) = false := by decide) : WE X (.Name x pos) ρ m Kt := by
  obtain ⟨z, hm, hk⟩ := h
  exact we_glob (A := qv q) (v := .ref z) a hg hm rfl (fun M H => ⟨z, _, rfl, .inr hk, .cons rfl (.cons rfl .nil)⟩) q' hd
theorem swF (a : At P w K mg base N sc df k X) {elt : Expr} {gs : List Comprehension} {scope : Scope} {py : Pos} {y : Str} {l : Nat} (hy : sc.names.lookup y = some .cell) : swapsWith (.ListComp elt gs scope pos) (some (.Name y py)) l X.env = pure false := by
  have ky : X.env.kindOf y = some .cell := by show X.env.scope.names.lookup y = _; rw [a.sce]; exact hy
  unfold swapsWith
  simp only [ky]
  have e : ((some NameKind.cell : Option NameKind) == some NameKind.local) = false := by decide
  simp [e]
/-! ### total -/
def C_total : CT := fun As m Kt => ∃ A l r, As = [A] ∧ IsSeqA A (l.map qv) ∧ totalO l = some r ∧ Kt (qv r) m
abbrev s_total : Stmt := topS 23
theorem sc_total : FnScope ["worths", "result", "worth"] ["worths"] (defScope s_total) := ⟨rfl, rfl, rfl, by decide +kernel, rfl, by decide +kernel, by decide +kernel⟩
theorem foldlM_pre {α β : Type} {f : β → α → Option β} {b r : β} {l : List α} (h : l.foldlM f b = some r) (i : Nat) : ∃ x, (l.take i).foldlM f b = some x ∧ (l.drop i).foldlM f x = some r := by
  rw [← List.take_append_drop i l, List.foldlM_append] at h
  cases e : (l.take i).foldlM f b with
  | none => rw [e] at h; cases h
  | some x => rw [e] at h; exact ⟨x, rfl, h⟩
theorem foldlM_step {α β : Type} {f : β → α → Option β} {b r : β} {l : List α} (h : l.foldlM f b = some r) {i : Nat} {x : β} {y : α} (hx : (l.take i).foldlM f b = some x) (hy : l[i]? = some y) : ∃ z, f x y = some z ∧ (l.take (i + 1)).foldlM f b = some z := by
  obtain ⟨z, hz, _⟩ := foldlM_pre h (i + 1)
  refine ⟨z, ?_, hz⟩
  rw [List.take_add_one, hy, List.foldlM_append, hx] at hz
  simpa using hz
include Z in
theorem F_total (Zz : KPair K mg "ZERO" Q0) (G : FnC P w K mg base 2 "added" (C_opO addO)) {f : Addr} {fd : FuncData} (F : Fun K "total" "total" s_total f fd) (hm : mg "total" = some (.ref f)) (hb : Binds K fd ["worths"] []) : FnC P w K mg base 3 "total" C_total := by
  refine fnC F sc_total hm hb (fun As m Kt ⟨A, l, r, h, _⟩ => by rw [h]; rfl) fun X a As m Kt ⟨A, l, r, e1, hs, ht, q⟩ => ?_
  subst e1
  refine wss_cons ?_
  refine ws_set a 1 rfl (.inl rfl) ?_
  refine g_pair a Zz rfl ?_
  refine wss_cons ?_
  refine ws_for a (fun i ρ' m' => m' = m ∧ ∃ x y, (l.take i).foldlM addO Q0 = some x ∧ ρ' = [some A, some (qv x), y]) ?_
  refine wi_seq ⟨A, hs, fun Kt k => we_name a 0 rfl (.inl rfl) rfl k⟩ ?_
  refine ⟨⟨rfl, Q0, none, rfl, rfl⟩, fun i B ρ' m' hB hW => ?_, fun ρ' m' hW => ?_⟩
  · obtain ⟨rfl, x, y, hx, rfl⟩ := hW
    rw [List.getElem?_map] at hB
    obtain ⟨b, hb, rfl⟩ := Option.map_eq_some_iff.mp hB
    obtain ⟨z, hz, hz2⟩ := foldlM_step ht hx hb
    refine wg_name a 2 rfl (.inl rfl) ?_
    refine wss_cons ?_
    refine ws_set a 1 rfl (.inl rfl) ?_
    refine we_call a G (by decide) rfl ?_
    refine wa_cons ?_
    refine we_name a 1 rfl (.inl rfl) rfl ?_
    refine wa_cons ?_
    refine we_name a 2 rfl (.inl rfl) rfl ?_
    refine wa_nil ?_
    refine ⟨[], _, rfl, _, _, _, rfl, hz, ?_⟩
    refine wss_nil ?_
    exact ⟨rfl, z, _, hz2, rfl⟩
  · obtain ⟨rfl, x, y, hx, rfl⟩ := hW
    rw [List.length_map, List.take_length] at hx
    have e : x = r := Option.some.inj (hx.symm.trans ht)
    subst e
    refine wss_cons ?_
    refine ws_ret ?_
    refine we_name a 1 rfl (.inl rfl) rfl ?_
    exact bodyE.ret q
/-! ### knots -/
def knotsM (d : Nat) (qs : List Q2) : List Q2 := List.replicate d (qs.headD Q0) ++ qs ++ List.replicate d (qs.getLastD Q0)
def C_knots : CT := fun As m Kt => ∃ (d : Nat) (A : AV) (Bs : List AV) (qs : List Q2), As = [AL.int d, A] ∧ IsSeqA A Bs ∧ IsVs Bs qs ∧ qs ≠ [] ∧ qs.length + 2 * d ≤ 900 ∧ Kt (tup ((knotsM d qs).map qv)) m
abbrev s_knots_of : Stmt := topS 36
theorem sc_knots_of : FnScope ["degree", "marks", "row"] ["degree", "marks"] (defScope s_knots_of) := ⟨rfl, rfl, rfl, by decide +kernel, rfl, by decide +kernel, by decide +kernel⟩
theorem rep_flat {α : Type} (x : α) : ∀ n : Nat, (List.replicate n [x]).flatten = List.replicate n x
  | 0 => rfl
  | n + 1 => by rw [List.replicate_succ, List.flatten_cons, rep_flat x n]; rfl
theorem at_first {qs : List Q2} (h : qs ≠ []) : L2.atI (qs.map qv) 0 = some (qv (qs.headD Q0)) := by
  cases qs with
  | nil => exact absurd rfl h
  | cons q r => exact atI_nat (j := 0) rfl
theorem at_last {qs : List Q2} (h : qs ≠ []) : L2.atI (qs.map qv) (-1) = some (qv (qs.getLastD Q0)) := by
  obtain ⟨r, q, rfl⟩ : ∃ r q, qs = r ++ [q] := ⟨qs.dropLast, qs.getLast h, (List.dropLast_concat_getLast h).symm⟩
  rw [List.map_append]
  have e : (r ++ [q]).getLastD Q0 = q := by simp [List.getLastD_eq_getLast?]
  rw [e]
  exact atI_last _ _
include Z in
theorem F_knots_of (G : FnC P w K mg base 2 "pairs" C_pairs) {f : Addr} {fd : FuncData} (F : Fun K "knots_of" "knots_of" s_knots_of f fd) (hm : mg "knots_of" = some (.ref f)) (hb : Binds K fd ["degree", "marks"] []) : FnC P w K mg base 3 "knots_of" C_knots := by
  refine fnC F sc_knots_of hm hb (fun As m Kt ⟨d, A, Bs, qs, h, _⟩ => by rw [h]; rfl) fun X a As m Kt ⟨d, A, Bs, qs, e1, hs, hv, hne, hl, q⟩ => ?_
  subst e1
  have ql : Bs.length = qs.length := Paired.length hv
  refine wss_cons ?_
  refine ws_set a 2 rfl (.inl rfl) ?_
  refine we_call a G (by decide) rfl ?_
  refine wa_cons ?_
  refine we_name a 1 rfl (.inl rfl) rfl ?_
  refine wa_nil ?_
  refine ⟨[], _, rfl, A, Bs, qs, rfl, hs, hv, by omega, ?_⟩
  refine wss_cons ?_
  refine ws_ret ?_
  refine we_tcat ?_
  refine we_tcat ?_
  refine we_trep ?_
  refine we_tup ?_
  refine wa_cons ?_
  refine we_ix ?_
  refine we_name a 2 rfl (.inl rfl) rfl ?_
  refine we_int ?_
  refine ⟨_, _, _, isSq_tup, rfl, at_first hne, ?_⟩
  refine wa_nil ?_
  refine ⟨(by decide : 1 ≤ 1000), ?_⟩
  refine we_name a 0 rfl (.inl rfl) rfl ?_
  refine ⟨_, d, rfl, rfl, by simp, by omega, by omega, (by decide : 1 ≤ 1000), ?_⟩
  refine we_name a 2 rfl (.inl rfl) rfl ?_
  refine ⟨_, _, rfl, rfl, by rw [rep_flat, List.length_replicate, List.length_map]; omega, ?_⟩
  refine we_trep ?_
  refine we_tup ?_
  refine wa_cons ?_
  refine we_ix ?_
  refine we_name a 2 rfl (.inl rfl) rfl ?_
  refine we_neg ?_
  refine we_int ?_
  refine ⟨_, rfl, ?_⟩
  refine ⟨_, _, _, isSq_tup, rfl, at_last hne, ?_⟩
  refine wa_nil ?_
  refine ⟨(by decide : 1 ≤ 1000), ?_⟩
  refine we_name a 0 rfl (.inl rfl) rfl ?_
  refine ⟨_, d, rfl, rfl, by simp, by omega, by omega, (by decide : 1 ≤ 1000), ?_⟩
  refine ⟨_, _, rfl, rfl, by rw [rep_flat, rep_flat, List.length_append, List.length_replicate, List.length_replicate, List.length_map]; omega, ?_⟩
  have e : List.replicate (d : Int).toNat (qv (qs.headD Q0)) ++ qs.map qv ++ List.replicate (d : Int).toNat (qv (qs.getLastD Q0)) = (knotsM d qs).map qv := by
    unfold knotsM
    rw [List.map_append, List.map_append, List.map_replicate, List.map_replicate, Int.toNat_natCast]
  rw [rep_flat, rep_flat, e]
  exact bodyE.ret q
end
end HB
namespace HB
open PySem PySem.Spec L2 AL
open PyProof.Rows hiding St
abbrev qd (q : Q2) : PyData := .tuple [.int q.1, .int q.2]
theorem dat_q {m : Mem} {q : Q2} : IsDat m (qv q) (qd q) := isDat_tup (.cons isDat_int (.cons isDat_int .nil))
theorem eqv_q {a b : Q2} : PyData.eqv (qd a) (qd b) = decide (a = b) := by
  obtain ⟨a1, a2⟩ := a
  obtain ⟨b1, b2⟩ := b
  show (a1 == b1 && (a2 == b2 && true)) = _
  by_cases h1 : a1 = b1 <;> by_cases h2 : a2 = b2 <;> simp [h1, h2]
def shareO (w a b : Q2) : Option Q2 := if w = Q0 then some Q0 else (divO a b).bind fun d => mulO w d
def weightO (row knots : List Q2) (i size : Nat) (t : Q2) : Option Q2 :=
  (row[i]?).bind fun r0 => (knots[i]?).bind fun k0 => (subO t k0).bind fun x => (knots[i + size]?).bind fun ks => (subO ks k0).bind fun y => (shareO r0 x y).bind fun rising =>
  (row[i + 1]?).bind fun r1 => (knots[i + size + 1]?).bind fun ke => (subO ke t).bind fun x2 => (knots[i + 1]?).bind fun k1 => (subO ke k1).bind fun y2 => (shareO r1 x2 y2).bind fun falling =>
  addO rising falling
def aheadO (knots : List Q2) (t : Q2) (last : Int) : Nat → Nat → Option Nat
  | 0, at_ => if (at_ : Int) < last then none else some at_
  | n + 1, at_ => if (at_ : Int) < last then (knots[at_ + 1]?).bind fun k => (lessO t k).bind fun b => if b = true then some at_ else aheadO knots t last n (at_ + 1) else some at_
section
variable {P : Program} {w : World} {K : PySem.W.Frag} {mg : Str → Option Value} {base : Heap} (Z : Blt mg)
variable {N : List Str} {sc : Scope} {df : Bool} {k : Nat} {X : Cx} {ρ : Rho} {m : Mem} {Kt : KA} {pos : Pos} {e f : Expr}
theorem atN {l : List Q2} {n : Nat} {z : Int} {q : Q2} (h : l[n]? = some q) (hz : z = (n : Int)) : L2.atI (l.map qv) z = some (qv q) := by
  subst hz
  exact atI_nat (by rw [List.getElem?_map, h]; rfl)
/-! ### _share -/
def C_share : CT := fun As m Kt => ∃ w a b r, As = [qv w, qv a, qv b] ∧ shareO w a b = some r ∧ Kt (qv r) m
abbrev s_share : Stmt := topS 43
theorem sc_share : FnScope ["weight", "above", "below"] ["weight", "above", "below"] (defScope s_share) := ⟨rfl, rfl, rfl, by decide +kernel, rfl, by decide +kernel, by decide +kernel⟩
theorem F_share (Zz : KPair K mg "ZERO" Q0) (GM : FnC P w K mg base 2 "multiplied" (C_opO mulO)) (GD : FnC P w K mg base 2 "divided" (C_opO divO)) {f : Addr} {fd : FuncData} (F : Fun K "_share" "_share" s_share f fd) (hm : mg "_share" = some (.ref f)) (hb : Binds K fd ["weight", "above", "below"] []) : FnC P w K mg base 3 "_share" C_share := by
  refine fnC F sc_share hm hb (fun As m Kt ⟨w, a, b, r, h, _⟩ => by rw [h]; rfl) fun X a As m Kt ⟨wt, x, y, r, e1, hr, q⟩ => ?_
  subst e1
  refine wss_cons ?_
  refine ws_ret ?_
  refine we_ifexp ?_
  refine wt_cmp (op_eqD (hu_at a)) abs_eqD rfl ?_
  refine we_name a 0 rfl (.inl rfl) rfl ?_
  refine g_pair a Zz rfl ?_
  refine ⟨_, _, dat_q, dat_q, rfl, rfl, _, rfl, ?_⟩
  rw [eqv_q]
  unfold shareO at hr
  by_cases h0 : wt = Q0
  · rw [if_pos h0] at hr
    cases hr
    refine brT (decide_eq_true h0) ?_
    refine g_pair a Zz rfl ?_
    exact bodyE.ret q
  · rw [if_neg h0] at hr
    obtain ⟨d, hd, hr⟩ := Option.bind_eq_some_iff.mp hr
    refine brF (decide_eq_false h0) ?_
    refine we_call a GM (by decide) rfl ?_
    refine wa_cons ?_
    refine we_name a 0 rfl (.inl rfl) rfl ?_
    refine wa_cons ?_
    refine we_call a GD (by decide) rfl ?_
    refine wa_cons ?_
    refine we_name a 1 rfl (.inl rfl) rfl ?_
    refine wa_cons ?_
    refine we_name a 2 rfl (.inl rfl) rfl ?_
    refine wa_nil ?_
    refine ⟨[], m, rfl, _, _, _, rfl, hd, ?_⟩
    refine wa_nil ?_
    refine ⟨[], m, rfl, _, _, _, rfl, hr, ?_⟩
    exact bodyE.ret q
/-! ### _weight -/
def C_weight : CT := fun As m Kt => ∃ (row knots : List Q2) (i size : Nat) (t r : Q2), As = [lst (row.map qv), tup (knots.map qv), AL.int i, AL.int size, qv t] ∧ weightO row knots i size t = some r ∧ Kt (qv r) m
abbrev s_weight : Stmt := topS 42
theorem sc_weight : FnScope ["row", "knots", "i", "size", "when", "rising", "falling"] ["row", "knots", "i", "size", "when"] (defScope s_weight) := ⟨rfl, rfl, rfl, by decide +kernel, rfl, by decide +kernel, by decide +kernel⟩
theorem F_weight (GA : FnC P w K mg base 2 "added" (C_opO addO)) (GS : FnC P w K mg base 2 "taken" (C_opO subO)) (GH : FnC P w K mg base 3 "_share" C_share) {f : Addr} {fd : FuncData} (F : Fun K "_weight" "_weight" s_weight f fd) (hm : mg "_weight" = some (.ref f)) (hb : Binds K fd ["row", "knots", "i", "size", "when"] []) : FnC P w K mg base 4 "_weight" C_weight := by
  refine fnC F sc_weight hm hb (fun As m Kt ⟨row, knots, i, size, t, r, h, _⟩ => by rw [h]; rfl) fun X a As m Kt ⟨row, knots, i, size, t, r, e1, hr, q⟩ => ?_
  subst e1
  unfold weightO at hr
  simp only [Option.bind_eq_some_iff] at hr
  obtain ⟨r0, h1, k0, h2, x, h3, ks, h4, y, h5, rising, h6, r1, h7, ke, h8, x2, h9, k1, h10, y2, h11, falling, h12, hr⟩ := hr
  refine wss_cons ?_
  refine ws_set a 5 rfl (.inl rfl) ?_
  refine we_call a GH (by decide) rfl ?_
  refine wa_cons ?_
  refine we_ix ?_
  refine we_name a 0 rfl (.inl rfl) rfl ?_
  refine we_name a 2 rfl (.inl rfl) rfl ?_
  refine ⟨_, _, _, isSq_lst, rfl, atN h1 rfl, ?_⟩
  refine wa_cons ?_
  refine we_call a GS (by decide) rfl ?_
  refine wa_cons ?_
  refine we_name a 4 rfl (.inl rfl) rfl ?_
  refine wa_cons ?_
  refine we_ix ?_
  refine we_name a 1 rfl (.inl rfl) rfl ?_
  refine we_name a 2 rfl (.inl rfl) rfl ?_
  refine ⟨_, _, _, isSq_tup, rfl, atN h2 rfl, ?_⟩
  refine wa_nil ?_
  refine ⟨[], m, rfl, _, _, _, rfl, h3, ?_⟩
  refine wa_cons ?_
  refine we_call a GS (by decide) rfl ?_
  refine wa_cons ?_
  refine we_ix ?_
  refine we_name a 1 rfl (.inl rfl) rfl ?_
  refine we_add ?_
  refine we_name a 2 rfl (.inl rfl) rfl ?_
  refine we_name a 3 rfl (.inl rfl) rfl ?_
  refine ⟨_, _, rfl, rfl, ?_⟩
  refine ⟨_, _, _, isSq_tup, rfl, atN h4 (by omega), ?_⟩
  refine wa_cons ?_
  refine we_ix ?_
  refine we_name a 1 rfl (.inl rfl) rfl ?_
  refine we_name a 2 rfl (.inl rfl) rfl ?_
  refine ⟨_, _, _, isSq_tup, rfl, atN h2 rfl, ?_⟩
  refine wa_nil ?_
  refine ⟨[], m, rfl, _, _, _, rfl, h5, ?_⟩
  refine wa_nil ?_
  refine ⟨[], m, rfl, _, _, _, _, rfl, h6, ?_⟩
  refine wss_cons ?_
  refine ws_set a 6 rfl (.inl rfl) ?_
  refine we_call a GH (by decide) rfl ?_
  refine wa_cons ?_
  refine we_ix ?_
  refine we_name a 0 rfl (.inl rfl) rfl ?_
  refine we_add ?_
  refine we_name a 2 rfl (.inl rfl) rfl ?_
  refine we_int ?_
  refine ⟨_, _, rfl, rfl, ?_⟩
  refine ⟨_, _, _, isSq_lst, rfl, atN h7 (by omega), ?_⟩
  refine wa_cons ?_
  refine we_call a GS (by decide) rfl ?_
  refine wa_cons ?_
  refine we_ix ?_
  refine we_name a 1 rfl (.inl rfl) rfl ?_
  refine we_add ?_
  refine we_add ?_
  refine we_name a 2 rfl (.inl rfl) rfl ?_
  refine we_name a 3 rfl (.inl rfl) rfl ?_
  refine ⟨_, _, rfl, rfl, ?_⟩
  refine we_int ?_
  refine ⟨_, _, rfl, rfl, ?_⟩
  refine ⟨_, _, _, isSq_tup, rfl, atN h8 (by omega), ?_⟩
  refine wa_cons ?_
  refine we_name a 4 rfl (.inl rfl) rfl ?_
  refine wa_nil ?_
  refine ⟨[], m, rfl, _, _, _, rfl, h9, ?_⟩
  refine wa_cons ?_
  refine we_call a GS (by decide) rfl ?_
  refine wa_cons ?_
  refine we_ix ?_
  refine we_name a 1 rfl (.inl rfl) rfl ?_
  refine we_add ?_
  refine we_add ?_
  refine we_name a 2 rfl (.inl rfl) rfl ?_
  refine we_name a 3 rfl (.inl rfl) rfl ?_
  refine ⟨_, _, rfl, rfl, ?_⟩
  refine we_int ?_
  refine ⟨_, _, rfl, rfl, ?_⟩
  refine ⟨_, _, _, isSq_tup, rfl, atN h8 (by omega), ?_⟩
  refine wa_cons ?_
  refine we_ix ?_
  refine we_name a 1 rfl (.inl rfl) rfl ?_
  refine we_add ?_
  refine we_name a 2 rfl (.inl rfl) rfl ?_
  refine we_int ?_
  refine ⟨_, _, rfl, rfl, ?_⟩
  refine ⟨_, _, _, isSq_tup, rfl, atN h10 (by omega), ?_⟩
  refine wa_nil ?_
  refine ⟨[], m, rfl, _, _, _, rfl, h11, ?_⟩
  refine wa_nil ?_
  refine ⟨[], m, rfl, _, _, _, _, rfl, h12, ?_⟩
  refine wss_cons ?_
  refine ws_ret ?_
  refine we_call a GA (by decide) rfl ?_
  refine wa_cons ?_
  refine we_name a 5 rfl (.inl rfl) rfl ?_
  refine wa_cons ?_
  refine we_name a 6 rfl (.inl rfl) rfl ?_
  refine wa_nil ?_
  refine ⟨[], m, rfl, _, _, _, rfl, hr, ?_⟩
  exact bodyE.ret q
/-! ### _knot_ahead -/
def C_ahead : CT := fun As m Kt => ∃ (d : Nat) (knots : List Q2) (t : Q2) (r : Nat), As = [AL.int d, tup (knots.map qv), qv t] ∧ aheadO knots t ((knots.length : Int) - d - 2) knots.length d = some r ∧ Kt (AL.int r) m
abbrev s_knot_ahead : Stmt := topS 41
theorem sc_knot_ahead : FnScope ["degree", "knots", "when", "last", "at"] ["degree", "knots", "when"] (defScope s_knot_ahead) := ⟨rfl, rfl, rfl, by decide +kernel, rfl, by decide +kernel, by decide +kernel⟩
include Z in
theorem F_knot_ahead (GL : FnC P w K mg base 1 "is_less" C_lessO) {f : Addr} {fd : FuncData} (F : Fun K "_knot_ahead" "_knot_ahead" s_knot_ahead f fd) (hm : mg "_knot_ahead" = some (.ref f)) (hb : Binds K fd ["degree", "knots", "when"] []) : FnC P w K mg base 2 "_knot_ahead" C_ahead := by
  refine fnC F sc_knot_ahead hm hb (fun As m Kt ⟨d, knots, t, r, h, _⟩ => by rw [h]; rfl) fun X a As m Kt ⟨d, knots, t, r, e1, hr, q⟩ => ?_
  subst e1
  refine wss_cons ?_
  refine ws_set a 3 rfl (.inl rfl) ?_
  refine we_sub ?_
  refine we_sub ?_
  refine b_len a Z rfl ?_
  refine wa_cons ?_
  refine we_name a 1 rfl (.inl rfl) rfl ?_
  refine wa_nil ?_
  refine ⟨_, _, rfl, isSq_tup, ?_⟩
  refine we_name a 0 rfl (.inl rfl) rfl ?_
  refine ⟨_, _, rfl, rfl, ?_⟩
  refine we_int ?_
  refine ⟨_, _, rfl, rfl, ?_⟩
  rw [List.length_map]
  refine wss_cons ?_
  refine ws_set a 4 rfl (.inl rfl) ?_
  refine we_name a 0 rfl (.inl rfl) rfl ?_
  refine wss_cons ?_
  refine ws_while a (fun n ρ' m' => m' = m ∧ ∃ at_ : Nat, aheadO knots t ((knots.length : Int) - d - 2) n at_ = some r ∧ ρ' = [some (AL.int d), some (tup (knots.map qv)), some (qv t), some (AL.int ((knots.length : Int) - d - 2)), some (AL.int at_)]) knots.length ⟨rfl, d, hr, rfl⟩ fun n ρ' m' hW => ?_
  obtain ⟨rfl, at_, ha, rfl⟩ := hW
  refine wt_of ?_
  refine ww_and ?_
  refine wt_icmp op_lt rfl ?_
  refine we_name a 4 rfl (.inl rfl) rfl ?_
  refine we_name a 3 rfl (.inl rfl) rfl ?_
  refine ⟨_, _, rfl, rfl, ?_⟩
  have out : some at_ = some r → WSs X [.Return (some (.Name "at" ⟨0, 0, 0, 0⟩)) ⟨0, 0, 0, 0⟩] [some (AL.int d), some (tup (knots.map qv)), some (qv t), some (AL.int ((knots.length : Int) - d - 2)), some (AL.int at_)] m' (bodyE Kt) → True := fun _ _ => trivial
  refine br (fun hlt => ?_) (fun hge => ?_)
  · have hlt' := of_decide_eq_true hlt
    cases n with
    | zero => unfold aheadO at ha; rw [if_pos hlt'] at ha; cases ha
    | succ n =>
      unfold aheadO at ha
      rw [if_pos hlt'] at ha
      obtain ⟨kn, h1, ha⟩ := Option.bind_eq_some_iff.mp ha
      obtain ⟨b, h2, ha⟩ := Option.bind_eq_some_iff.mp ha
      refine ww_and1 ?_
      refine wt_not ?_
      refine wt_val ?_
      refine we_call a GL (by decide) rfl ?_
      refine wa_cons ?_
      refine we_name a 2 rfl (.inl rfl) rfl ?_
      refine wa_cons ?_
      refine we_ix ?_
      refine we_name a 1 rfl (.inl rfl) rfl ?_
      refine we_add ?_
      refine we_name a 4 rfl (.inl rfl) rfl ?_
      refine we_int ?_
      refine ⟨_, _, rfl, rfl, ?_⟩
      refine ⟨_, _, _, isSq_tup, rfl, atN h1 (by omega), ?_⟩
      refine wa_nil ?_
      refine ⟨[], m', rfl, _, _, _, rfl, h2, ?_⟩
      refine ⟨_, rfl, ?_⟩
      cases b with
      | true =>
        rw [if_pos rfl] at ha
        cases ha
        refine brF rfl ?_
        refine wss_cons ?_
        refine ws_ret ?_
        refine we_name a 4 rfl (.inl rfl) rfl ?_
        exact bodyE.ret q
      | false =>
        rw [if_neg Bool.false_ne_true] at ha
        refine brT rfl ?_
        refine wss_cons ?_
        refine ws_augI a 4 rfl (.inl rfl) rfl ?_
        refine we_int ?_
        refine ⟨_, rfl, ?_⟩
        refine wss_nil ?_
        exact ⟨n, Nat.lt_succ_self n, rfl, at_ + 1, ha, rfl⟩
  · have hge' := of_decide_eq_false hge
    have e : at_ = r := by
      cases n with
      | zero => unfold aheadO at ha; rw [if_neg hge'] at ha; exact Option.some.inj ha
      | succ n => unfold aheadO at ha; rw [if_neg hge'] at ha; exact Option.some.inj ha
    subst e
    refine brF rfl ?_
    refine wss_cons ?_
    refine ws_ret ?_
    refine we_name a 4 rfl (.inl rfl) rfl ?_
    exact bodyE.ret q
end
end HB
namespace HB
open PySem PySem.Spec L2 AL
open PyProof.Rows hiding St
theorem mapM_get {α β : Type} {f : α → Option β} : ∀ {l : List α} {r : List β}, l.mapM f = some r → r.length = l.length ∧ ∀ (i : Nat) (x : α), l[i]? = some x → ∃ y, f x = some y ∧ r[i]? = some y
  | [], r, h => by
    simp at h
    subst h
    exact ⟨rfl, fun i x e => by simp at e⟩
  | a :: l, r, h => by
    rw [List.mapM_cons] at h
    obtain ⟨y, hy, h⟩ := Option.bind_eq_some_iff.mp h
    obtain ⟨ys, hys, h⟩ := Option.bind_eq_some_iff.mp h
    have e : y :: ys = r := Option.some.inj h
    subst e
    obtain ⟨h1, h2⟩ := mapM_get hys
    refine ⟨by simp [h1], fun i x e => ?_⟩
    cases i with
    | zero => simp at e; subst e; exact ⟨y, hy, rfl⟩
    | succ i => simp at e; simpa using h2 i x e
theorem take_snoc {α : Type} {r : List α} {i : Nat} {y : α} (h : r[i]? = some y) : r.take (i + 1) = r.take i ++ [y] := by
  rw [List.take_add_one, h]; rfl
theorem rangeA_get {lo : Int} {n i : Nat} {A : AV} (h : (rangeA lo n)[i]? = some A) : i < n ∧ A = AL.int (lo + (i : Int)) := by
  unfold rangeA at h
  rw [List.getElem?_map] at h
  obtain ⟨x, hx, rfl⟩ := Option.map_eq_some_iff.mp h
  have hl := List.getElem?_eq_some_iff.mp hx
  obtain ⟨h1, h2⟩ := hl
  rw [List.length_range] at h1
  rw [List.getElem_range] at h2
  subst h2
  exact ⟨h1, rfl⟩
theorem rangeA_len {lo : Int} {n : Nat} : (rangeA lo n).length = n := by simp [rangeA]
theorem range_get {n i : Nat} (h : i < n) : (List.range n)[i]? = some i := by simp [h]
def withinO (qs : List Q2) (t : Q2) : Bool := (lessO t (qs.headD Q0) == some false) && (lessO (qs.getLastD Q0) t == some false)
def rowO (knots : List Q2) (t : Q2) (row : List Q2) (s : Nat) : Option (List Q2) := (List.range (row.length - 1)).mapM fun i => weightO row knots i (s + 1) t
def weightsO (d : Nat) (qs : List Q2) (t : Q2) : Option (List Q2) :=
  guardO (!qs.isEmpty && decide (qs.length + 2 * d ≤ 900) && withinO qs t) <|
  (aheadO (knotsM d qs) t (((knotsM d qs).length : Int) - d - 2) (knotsM d qs).length d).bind fun h =>
  (List.range d).foldlM (rowO (knotsM d qs) t) ((List.range ((knotsM d qs).length - 1)).map fun (i : Nat) => if i = h then Q1 else Q0)
theorem rowO_len {knots row r : List Q2} {t : Q2} {s : Nat} (h : rowO knots t row s = some r) : r.length = row.length - 1 := by
  have q := (mapM_get h).1
  rw [List.length_range] at q
  exact q
section
variable {P : Program} {w : World} {K : PySem.W.Frag} {mg : Str → Option Value} {base : Heap} (Z : Blt mg)
variable {N : List Str} {sc : Scope} {df : Bool} {k : Nat} {X : Cx} {ρ : Rho} {m : Mem} {Kt : KA} {pos : Pos} {e f : Expr}
theorem IsVs.first {Bs : List AV} {qs : List Q2} (h : IsVs Bs qs) (hne : qs ≠ []) : ∃ B, L2.atI Bs 0 = some B ∧ IsV B (qs.headD Q0) := by
  cases h with
  | nil => exact absurd rfl hne
  | cons r t => exact ⟨_, atI_nat (j := 0) rfl, r⟩
theorem paired_last {Bs : List AV} {qs : List Q2} (h : IsVs Bs qs) : ∀ {q : Q2} {r : List Q2}, qs = r ++ [q] → ∃ Cs C, Bs = Cs ++ [C] ∧ IsV C q := by
  induction h with
  | nil => intro q r e; simp at e
  | @cons A x Bs qs hr ht ih =>
    intro q r e
    cases r with
    | nil =>
      simp at e
      obtain ⟨rfl, rfl⟩ := e
      cases ht
      exact ⟨[], A, rfl, hr⟩
    | cons y r =>
      simp at e
      obtain ⟨rfl, rfl⟩ := e
      obtain ⟨Cs, C, rfl, hc⟩ := ih rfl
      exact ⟨A :: Cs, C, rfl, hc⟩
theorem IsVs.last {Bs : List AV} {qs : List Q2} (h : IsVs Bs qs) (hne : qs ≠ []) : ∃ B, L2.atI Bs (-1) = some B ∧ IsV B (qs.getLastD Q0) := by
  obtain ⟨r, q, rfl⟩ : ∃ r q, qs = r ++ [q] := ⟨qs.dropLast, qs.getLast hne, (List.dropLast_concat_getLast hne).symm⟩
  obtain ⟨Cs, C, rfl, hc⟩ := paired_last h rfl
  have e : (r ++ [q]).getLastD Q0 = q := by simp [List.getLastD_eq_getLast?]
  rw [e]
  exact ⟨C, atI_last _ _, hc⟩
/-! ### time_within -/
def C_within : CT := fun As m Kt => ∃ (A : AV) (Bs : List AV) (qs : List Q2) (T : AV) (t : Q2), As = [A, T] ∧ IsSeqA A Bs ∧ IsVs Bs qs ∧ IsV T t ∧ qs ≠ [] ∧ withinO qs t = true ∧ Kt (qv t) m
abbrev s_is_time : Stmt := topS 37
theorem sc_is_time : FnScope ["marks", "thing"] ["marks", "thing"] (defScope s_is_time) := ⟨rfl, rfl, rfl, by decide +kernel, rfl, by decide +kernel, by decide +kernel⟩
def C_is_time : CT := fun As m Kt => ∃ (A : AV) (Bs : List AV) (qs : List Q2) (T : AV) (t : Q2), As = [A, T] ∧ IsSeqA A Bs ∧ IsVs Bs qs ∧ IsV T t ∧ qs ≠ [] ∧ withinO qs t = true ∧ Kt (AL.bool true) m
theorem F_is_time (GV : FnC P w K mg base 2 "is_value" C_is_value) (GP : FnC P w K mg base 1 "pair" C_pair) (GL : FnC P w K mg base 1 "is_less" C_lessO) {f : Addr} {fd : FuncData} (F : Fun K "is_time" "is_time" s_is_time f fd) (hm : mg "is_time" = some (.ref f)) (hb : Binds K fd ["marks", "thing"] []) : FnC P w K mg base 3 "is_time" C_is_time := by
  refine fnC F sc_is_time hm hb (fun As m Kt ⟨A, Bs, qs, T, t, h, _⟩ => by rw [h]; rfl) fun X a As m Kt ⟨A, Bs, qs, T, t, e1, hs, hv, hT, hne, hw, q⟩ => ?_
  subst e1
  unfold withinO at hw
  rw [Bool.and_eq_true] at hw
  have w1 : lessO t (qs.headD Q0) = some false := beq_iff_eq.mp hw.1
  have w2 : lessO (qs.getLastD Q0) t = some false := beq_iff_eq.mp hw.2
  obtain ⟨B0, b1, b2⟩ := hv.first hne
  obtain ⟨B1, c1, c2⟩ := hv.last hne
  refine wss_cons ?_
  refine ws_if ?_
  refine wt_not ?_
  refine wt_val ?_
  refine we_call a GV (by decide) rfl ?_
  refine wa_cons ?_
  refine we_name a 1 rfl (.inl rfl) rfl ?_
  refine wa_nil ?_
  refine ⟨[], m, rfl, _, _, rfl, hT, ?_⟩
  refine ⟨_, rfl, ?_⟩
  refine brF rfl ?_
  refine wss_nil ?_
  refine wss_cons ?_
  refine ws_ret ?_
  refine we_and ?_
  refine we_not ?_
  refine we_call a GL (by decide) rfl ?_
  refine wa_cons ?_
  refine we_call a GP (by decide) rfl ?_
  refine wa_cons ?_
  refine we_name a 1 rfl (.inl rfl) rfl ?_
  refine wa_nil ?_
  refine ⟨[], m, rfl, _, _, rfl, hT, ?_⟩
  refine wa_cons ?_
  refine we_call a GP (by decide) rfl ?_
  refine wa_cons ?_
  refine we_ix ?_
  refine we_name a 0 rfl (.inl rfl) rfl ?_
  refine we_int ?_
  refine ⟨_, _, _, hs.sq, rfl, b1, ?_⟩
  refine wa_nil ?_
  refine ⟨[], m, rfl, _, _, rfl, b2, ?_⟩
  refine wa_nil ?_
  refine ⟨[], m, rfl, _, _, _, rfl, w1, ?_⟩
  refine ⟨_, rfl, ?_⟩
  refine ⟨_, rfl, ?_⟩
  refine brT rfl ?_
  refine we_one ?_
  refine we_not ?_
  refine we_call a GL (by decide) rfl ?_
  refine wa_cons ?_
  refine we_call a GP (by decide) rfl ?_
  refine wa_cons ?_
  refine we_ix ?_
  refine we_name a 0 rfl (.inl rfl) rfl ?_
  refine we_neg ?_
  refine we_int ?_
  refine ⟨_, rfl, ?_⟩
  refine ⟨_, _, _, hs.sq, rfl, c1, ?_⟩
  refine wa_nil ?_
  refine ⟨[], m, rfl, _, _, rfl, c2, ?_⟩
  refine wa_cons ?_
  refine we_call a GP (by decide) rfl ?_
  refine wa_cons ?_
  refine we_name a 1 rfl (.inl rfl) rfl ?_
  refine wa_nil ?_
  refine ⟨[], m, rfl, _, _, rfl, hT, ?_⟩
  refine wa_nil ?_
  refine ⟨[], m, rfl, _, _, _, rfl, w2, ?_⟩
  refine ⟨_, rfl, ?_⟩
  exact bodyE.ret q
abbrev s_time_within : Stmt := topS 38
theorem sc_time_within : FnScope ["marks", "time"] ["marks", "time"] (defScope s_time_within) := ⟨rfl, rfl, rfl, by decide +kernel, rfl, by decide +kernel, by decide +kernel⟩
theorem F_time_within (GI : FnC P w K mg base 3 "is_time" C_is_time) (GP : FnC P w K mg base 1 "pair" C_pair) {f : Addr} {fd : FuncData} (F : Fun K "time_within" "time_within" s_time_within f fd) (hm : mg "time_within" = some (.ref f)) (hb : Binds K fd ["marks", "time"] []) : FnC P w K mg base 4 "time_within" C_within := by
  refine fnC F sc_time_within hm hb (fun As m Kt ⟨A, Bs, qs, T, t, h, _⟩ => by rw [h]; rfl) fun X a As m Kt ⟨A, Bs, qs, T, t, e1, hs, hv, hT, hne, hw, q⟩ => ?_
  subst e1
  refine wss_cons ?_
  refine ws_if ?_
  refine wt_not ?_
  refine wt_val ?_
  refine we_call a GI (by decide) rfl ?_
  refine wa_cons ?_
  refine we_name a 0 rfl (.inl rfl) rfl ?_
  refine wa_cons ?_
  refine we_name a 1 rfl (.inl rfl) rfl ?_
  refine wa_nil ?_
  refine ⟨[], m, rfl, _, _, _, _, _, rfl, hs, hv, hT, hne, hw, ?_⟩
  refine ⟨_, rfl, ?_⟩
  refine brF rfl ?_
  refine wss_nil ?_
  refine wss_cons ?_
  refine ws_ret ?_
  refine we_call a GP (by decide) rfl ?_
  refine wa_cons ?_
  refine we_name a 1 rfl (.inl rfl) rfl ?_
  refine wa_nil ?_
  refine ⟨[], m, rfl, _, _, rfl, hT, ?_⟩
  exact bodyE.ret q
/-! ### weights -/
def C_weights : CT := fun As m Kt => ∃ (d : Nat) (A : AV) (Bs : List AV) (qs : List Q2) (T : AV) (t : Q2) (r : List Q2), As = [AL.int d, A, T] ∧ IsSeqA A Bs ∧ IsVs Bs qs ∧ IsV T t ∧ weightsO d qs t = some r ∧ Kt (tup (r.map qv)) m
abbrev s_weights : Stmt := topS 40
theorem sc_weights : FnScope ["degree", "marks", "time", "when", "knots", "here", "row", "size", "i"] ["degree", "marks", "time"] (defScope s_weights) := ⟨rfl, rfl, rfl, by decide +kernel, rfl, by decide +kernel, by decide +kernel⟩
theorem knotsM_len (d : Nat) (qs : List Q2) : (knotsM d qs).length = qs.length + 2 * d := by
  unfold knotsM
  simp
  omega
include Z in
theorem F_weights (Zz : KPair K mg "ZERO" Q0) (Zo : KPair K mg "ONE" Q1) (GT : FnC P w K mg base 4 "time_within" C_within) (GK : FnC P w K mg base 3 "knots_of" C_knots) (GA : FnC P w K mg base 2 "_knot_ahead" C_ahead) (GW : FnC P w K mg base 4 "_weight" C_weight) {f : Addr} {fd : FuncData} (F : Fun K "weights" "weights" s_weights f fd) (hm : mg "weights" = some (.ref f)) (hb : Binds K fd ["degree", "marks", "time"] []) : FnC P w K mg base 5 "weights" C_weights := by
  refine fnC F sc_weights hm hb (fun As m Kt ⟨d, A, Bs, qs, T, t, r, h, _⟩ => by rw [h]; rfl) fun X a As m Kt ⟨d, A, Bs, qs, T, t, r, e1, hs, hv, hT, hr, q⟩ => ?_
  subst e1
  obtain ⟨hg, hr⟩ := guardO_some hr
  simp only [Bool.and_eq_true, decide_eq_true_eq] at hg
  obtain ⟨⟨hne, hlen⟩, hw⟩ := hg
  have hne : qs ≠ [] := fun z => by subst z; cases hne
  obtain ⟨h, h1, hr⟩ := Option.bind_eq_some_iff.mp hr
  have kl := knotsM_len d qs
  refine wss_cons ?_
  refine ws_set a 3 rfl (.inr ⟨rfl, rfl⟩) ?_
  refine we_call a GT (by decide) rfl ?_
  refine wa_cons ?_
  refine we_name a 1 rfl (.inl rfl) rfl ?_
  refine wa_cons ?_
  refine we_name a 2 rfl (.inl rfl) rfl ?_
  refine wa_nil ?_
  refine ⟨[], m, rfl, _, _, _, _, _, rfl, hs, hv, hT, hne, hw, ?_⟩
  refine wss_cons ?_
  refine ws_set a 4 rfl (.inr ⟨rfl, rfl⟩) ?_
  refine we_call a GK (by decide) rfl ?_
  refine wa_cons ?_
  refine we_name a 0 rfl (.inl rfl) rfl ?_
  refine wa_cons ?_
  refine we_name a 1 rfl (.inl rfl) rfl ?_
  refine wa_nil ?_
  refine ⟨[], m, rfl, _, _, _, _, rfl, hs, hv, hne, hlen, ?_⟩
  refine wss_cons ?_
  refine ws_set a 5 rfl (.inr ⟨rfl, rfl⟩) ?_
  refine we_call a GA (by decide) rfl ?_
  refine wa_cons ?_
  refine we_name a 0 rfl (.inl rfl) rfl ?_
  refine wa_cons ?_
  refine we_name a 4 rfl (.inr (.inl rfl)) rfl ?_
  refine wa_cons ?_
  refine we_name a 3 rfl (.inr (.inl rfl)) rfl ?_
  refine wa_nil ?_
  refine ⟨[], m, rfl, _, _, _, _, rfl, h1, ?_⟩
  generalize hk : knotsM d qs = knots at *
  generalize hrow0 : ((List.range (knots.length - 1)).map fun (i : Nat) => if i = h then Q1 else Q0) = row0 at *
  have row0l : row0.length = knots.length - 1 := by rw [← hrow0]; simp
  refine wss_cons ?_
  refine ws_set a 6 rfl (.inr ⟨rfl, rfl⟩) ?_ (swF a rfl)
  refine WN.we (wn_lc1 a 8 (by decide +kernel) rfl rfl ?_)
  refine wi_range1 a rfl Z.range ?_
  refine we_sub ?_
  refine b_len a Z rfl ?_
  refine wa_cons ?_
  refine we_name a 4 rfl (.inr (.inl rfl)) rfl ?_
  refine wa_nil ?_
  refine ⟨_, _, rfl, isSq_tup, ?_⟩
  refine we_int ?_
  refine ⟨_, _, rfl, rfl, ?_⟩
  rw [List.length_map]
  refine ⟨_, rfl, by omega, ?_⟩
  refine ⟨by rw [rangeA_len]; omega, fun i acc m' => m' = m ∧ acc = (row0.map qv).take i, ⟨rfl, by simp⟩, fun i acc m2 A hA hW X' hX => ?_, fun acc m2 hW => ?_⟩
  · obtain ⟨rfl, rfl⟩ := hW
    have b := hX.at_ a
    obtain ⟨hi, rfl⟩ := rangeA_get hA
    have hi' : i < knots.length - 1 := by omega
    have gi : (row0.map qv)[i]? = some (qv (if i = h then Q1 else Q0)) := by
      rw [← hrow0, List.getElem?_map, List.getElem?_map, range_get hi']
      rfl
    refine we_ifexp ?_
    refine wt_icmp op_eqI rfl ?_
    refine we_name b 8 rfl (.inl rfl) rfl ?_
    refine we_name b 5 rfl (.inr (.inl rfl)) rfl ?_
    refine ⟨_, _, rfl, rfl, ?_⟩
    by_cases hh : i = h
    · refine brT (decide_eq_true (by omega)) ?_
      refine g_pair b Zo rfl ?_
      rw [if_pos hh] at gi
      exact ⟨rfl, (take_snoc gi).symm⟩
    · refine brF (decide_eq_false (by omega)) ?_
      refine g_pair b Zz rfl ?_
      rw [if_neg hh] at gi
      exact ⟨rfl, (take_snoc gi).symm⟩
  · obtain ⟨rfl, rfl⟩ := hW
    rw [List.take_of_length_le (by rw [rangeA_len, List.length_map, row0l]; omega)]
    refine wss_cons ?_
    refine ws_for a (fun i ρ' m' => m' = m2 ∧ ∃ row y, ((List.range d).take i).foldlM (rowO knots t) row0 = some row ∧ row.length + i = knots.length - 1 ∧ ρ' = [some (AL.int d), some A, some T, some (qv t), some (tup (knots.map qv)), some (AL.int h), some (lst (row.map qv)), y, none]) ?_
    refine wi_range2 a rfl Z.range ?_
    refine we_int ?_
    refine we_add ?_
    refine we_name a 0 rfl (.inl rfl) rfl ?_
    refine we_int ?_
    refine ⟨_, _, rfl, rfl, ?_⟩
    refine ⟨_, _, rfl, rfl, by omega, ?_⟩
    have ed : ((d : Int) + 1 - 1).toNat = d := by omega
    rw [ed]
    refine ⟨⟨rfl, row0, none, rfl, by omega, rfl⟩, fun i B ρ' m' hB hW => ?_, fun ρ' m' hW => ?_⟩
    · obtain ⟨rfl, row, y, hrow, hrl, rfl⟩ := hW
      obtain ⟨hi, rfl⟩ := rangeA_get hB
      obtain ⟨row', hz, hz2⟩ := foldlM_step hr hrow (range_get hi)
      obtain ⟨ml, mg'⟩ := mapM_get hz
      rw [List.length_range] at ml
      refine wg_name a 7 rfl (.inr ⟨rfl, rfl⟩) ?_
      refine wss_cons ?_
      refine ws_set a 6 rfl (.inr ⟨rfl, rfl⟩) ?_ (swF a rfl)
      refine WN.we (wn_lc1 a 8 (by decide +kernel) rfl rfl ?_)
      refine wi_range1 a rfl Z.range ?_
      refine we_sub ?_
      refine b_len a Z rfl ?_
      refine wa_cons ?_
      refine we_name a 6 rfl (.inr (.inl rfl)) rfl ?_
      refine wa_nil ?_
      refine ⟨_, _, rfl, isSq_lst, ?_⟩
      refine we_int ?_
      refine ⟨_, _, rfl, rfl, ?_⟩
      rw [List.length_map]
      refine ⟨_, rfl, by omega, ?_⟩
      refine ⟨by rw [rangeA_len]; omega, fun n acc mm => mm = m' ∧ acc = (row'.map qv).take n, ⟨rfl, by simp⟩, fun n acc mm A' hA hW X' hX => ?_, fun acc mm hW => ?_⟩
      · obtain ⟨rfl, rfl⟩ := hW
        have b := hX.at_ a
        obtain ⟨hn, rfl⟩ := rangeA_get hA
        obtain ⟨yv, hy1, hy2⟩ := mg' n n (range_get (by omega))
        refine we_call b GW (by decide) rfl ?_
        refine wa_cons ?_
        refine we_name b 6 rfl (.inr (.inl rfl)) rfl ?_
        refine wa_cons ?_
        refine we_name b 4 rfl (.inr (.inl rfl)) rfl ?_
        refine wa_cons ?_
        refine we_name b 8 rfl (.inl rfl) rfl ?_
        refine wa_cons ?_
        refine we_name b 7 rfl (.inr (.inl rfl)) rfl ?_
        refine wa_cons ?_
        refine we_name b 3 rfl (.inr (.inl rfl)) rfl ?_
        refine wa_nil ?_
        refine ⟨[], mm, rfl, row, knots, n, i + 1, t, yv, ?_, hy1, ?_⟩
        · have x1 : (0 : Int) + (n : Int) = (n : Int) := by omega
          have x2 : (1 : Int) + (i : Int) = ((i + 1 : Nat) : Int) := by omega
          rw [x1, x2]
        · exact ⟨rfl, (take_snoc (by rw [List.getElem?_map, hy2]; rfl)).symm⟩
      · obtain ⟨rfl, rfl⟩ := hW
        rw [List.take_of_length_le (l := row'.map qv) (by rw [rangeA_len, List.length_map, ml]; omega)]
        refine wss_nil ?_
        refine ⟨rfl, row', _, hz2, by omega, rfl⟩
    · obtain ⟨rfl, row, y, hrow, hrl, rfl⟩ := hW
      rw [rangeA_len] at hrow
      have e2 : (List.range d).take d = List.range d := List.take_of_length_le (by simp)
      rw [e2] at hrow
      have e3 : row = r := Option.some.inj (hrow.symm.trans hr)
      subst e3
      refine wss_cons ?_
      refine ws_ret ?_
      refine b_tuple a Z rfl ?_
      refine wa_cons ?_
      refine we_name a 6 rfl (.inr (.inl rfl)) rfl ?_
      refine wa_nil ?_
      refine .inl ⟨_, _, rfl, isLs_lst, ?_⟩
      exact bodyE.ret q
end
end HB
namespace HB
open PySem PySem.Spec L2 AL
open PyProof.Rows hiding St
/-- the class Bend as it stands behind the top -/
structure BendF (K : PySem.W.Frag) (C : Addr) : Prop where
  cls : L2.Cls K C
  deg : NoAttr K C "degree"
  mar : NoAttr K C "marks"
  han : NoAttr K C "handles"
abbrev bendF (d : Nat) (qs hs : List Q2) : List (Str × AV) := [("degree", AL.int d), ("marks", tup (qs.map qv)), ("handles", tup (hs.map qv))]
abbrev bendV (C : Addr) (d : Nat) (qs hs : List Q2) : AV := ins C (bendF d qs hs)
def Norm (q : Q2) : Prop := 1 ≤ q.2 ∧ Nat.gcd q.1.natAbs q.2.natAbs = 1
theorem norm_v {q : Q2} (h : Norm q) : IsV (qv q) q := .pr q.1 q.2 h.1 h.2
theorem norm_vs : ∀ {qs : List Q2}, (∀ q ∈ qs, Norm q) → IsVs (qs.map qv) qs
  | [], _ => .nil
  | q :: qs, h => .cons (norm_v (h q List.mem_cons_self)) (norm_vs fun z hz => h z (List.mem_cons_of_mem _ hz))
def valueO (d : Nat) (qs hs : List Q2) (t : Q2) : Option Q2 := (weightsO d qs t).bind fun ws => ((hs.zip ws).mapM fun p => mulO p.1 p.2).bind totalO
def cutQ (l : List Q2) (a b : Nat) : List Q2 := (l.drop (min a l.length)).take (min b l.length - min a l.length)
def homeO (d : Nat) (qs : List Q2) (i : Nat) : Option Q2 := (totalO (cutQ (knotsM d qs) (i + 1) (i + 1 + d))).bind fun s => divO s ((d : Int), 1)
def homesO (d : Nat) (qs hs : List Q2) : Option (List Q2) :=
  if d = 0 then (addO (qs.headD Q0) (qs.getLastD Q0)).bind fun s => (divO s (2, 1)).bind fun r => some [r]
  else (List.range hs.length).mapM (homeO d qs)
section
variable {P : Program} {w : World} {K : PySem.W.Frag} {mg : Str → Option Value} {base : Heap} (Z : Blt mg)
variable {N : List Str} {sc : Scope} {df : Bool} {k : Nat} {X : Cx} {ρ : Rho} {m : Mem} {Kt : KA} {pos : Pos} {e f : Expr} {C : Addr}
theorem fldA (a : At P w K mg base N sc df k X) {fl : Str} (cl : L2.Cls K C) (na : NoAttr K C fl) (h : WE X e ρ m fun A m1 => ∃ fs B, A = ins C fs ∧ fs.lookup fl = some B ∧ Kt B m1) (hb : attributeBase e fl X.env (eval e X.env) = eval e X.env := by rfl) : WE X (.Attribute e fl pos) ρ m Kt :=
  we_fld (h.mono fun A m1 ⟨fs, B, e1, e2, q⟩ => ⟨C, fs, B, e1, by rw [a.kt]; exact cl, by rw [a.kt]; exact na, e2, q⟩) hb
include Z in
/-- len of an instance -/
theorem we_lenOwn (a : At P w K mg base N sc df k X) {j : Nat} {p : Pos} {Cn : CT} (M : MethC P w K mg base j C "__len__" Cn) (hj : j + 1 ≤ k) (hg : sc.names.lookup ("len" : Str) = some .globalImplicit)
    (h : WE X e ρ m fun A m1 => ∃ fs, A = ins C fs ∧ Cn [A] [] fun B m' => m' = [] ∧ ∃ n : Int, B = AL.int n ∧ 0 ≤ n ∧ n < 2 ^ 63 ∧ Kt (AL.int n) m1)
    (he : starEach (e :: []) X.env = (false, eval e X.env) :: starEach [] X.env := by rfl) (hpl : (backTo pos (starEach [] X.env)).any (·.1) = false := by rfl) : WE X (.Call (.Name "len" p) [e] [] pos) ρ m Kt := by
  intro fr σ H o Q g
  obtain ⟨gd, fd, ps, h1, h2, hb, F⟩ := M
  have hr := a.room.mono hj
  have hgl := gl_of a hg
  have hmm : X.mg "len" = none := by rw [a.mt]; exact Z.len
  obtain ⟨rfl, rfl, rfl, rfl, rfl, _⟩ := a
  refine le_E (pe_callB (call_lenOwn h1 h2 hb F hr) hgl hmm PySem.boot_len (pa_cons wpE_pe pa_nil he) (by decide) (by decide) he hpl) ?_
  refine h.to o fun A m1 v H1 ⟨fs, ea, hC⟩ x1 o1 r1 => ?_
  subst ea
  have r1' := r1
  obtain ⟨q, dx, vs, rfl, hq, nq, rf⟩ := r1
  refine ⟨q, dx, vs, rfl, hq, ?_⟩
  obtain ⟨gf, e1, mv, back⟩ := MemV.call (m1 := []) (m2 := m1) o1.mem
  have hmm2 := split_ms (fr := fr) (m1 := []) e1
  refine ⟨gf ++ fr, [ins C fs], [], _, hC, mv, .cons ((ins C fs).st r1' (.same fun x z => (hmm2 x).mp z)) .nil, fun B m' u H' ⟨em, n, eb, n0, n1, kk⟩ x2 mv2 rb => ?_⟩
  subst em eb
  have x4 : Ext (Ms fr m1) H1 (Ms fr m1) H' := ((Ext.same fun x z => (hmm2 x).mp z).trans x2).trans (.same fun x z => (hmm2 x).mpr z)
  exact ⟨n, rb, n0, n1, g _ m1 _ H' kk (x1.trans x4) ⟨o1.env.st x4, back [] H' x2 mv2⟩ rfl⟩
/-! ### Bend.__len__ -/
def C_blen (C : Addr) : CT := fun As m Kt => ∃ d qs hs, As = [bendV C d qs hs] ∧ Kt (AL.int (hs.length : Nat)) m
abbrev s_blen : Stmt := inClass (topS 32) 2
theorem sc_blen : FnScope ["self"] ["self"] (defScope s_blen) := ⟨rfl, rfl, rfl, by decide +kernel, rfl, by decide +kernel, by decide +kernel⟩
include Z in
theorem M_blen (B : BendF K C) {g : Addr} {fd : FuncData} (F : Fun K "__len__" "Bend.__len__" s_blen g fd) (h1 : PySem.W.findIn K (.ref C) "__len__" = some (some (.ref g))) (h2 : PySem.W.isFn K (.ref g) = true) (hb : L2.Binds K fd ["self"] []) : MethC P w K mg base 1 C "__len__" (C_blen C) := by
  refine ⟨g, fd, ["self"], h1, h2, hb, fnOk F sc_blen (fun As m Kt ⟨d, qs, hs, h, _⟩ => by rw [h]; rfl) fun X a As m Kt ⟨d, qs, hs, e1, q⟩ => ?_⟩
  subst e1
  refine wss_cons ?_
  refine ws_ret ?_
  refine b_len a Z rfl ?_
  refine wa_cons ?_
  refine fldA a B.cls B.han ?_
  refine we_name a 0 rfl (.inl rfl) rfl ?_
  refine ⟨_, _, rfl, rfl, ?_⟩
  refine wa_nil ?_
  refine ⟨_, _, rfl, isSq_tup, ?_⟩
  rw [List.length_map]
  exact bodyE.ret q
/-! ### homes -/
def C_homes (C : Addr) : CT := fun As m Kt => ∃ (d : Nat) (qs hs r : List Q2), As = [bendV C d qs hs] ∧ (∀ q ∈ qs, Norm q) ∧ qs ≠ [] ∧ qs.length + 2 * d ≤ 900 ∧ hs.length ≤ 900 ∧ homesO d qs hs = some r ∧ Kt (tup (r.map qv)) m
theorem cut_map {l : List Q2} {a b : Nat} {x y : Int} (hx : x = (a : Int)) (hy : y = (b : Int)) : cutA (l.map qv) (some x) (some y) = (cutQ l a b).map qv := by
  subst hx hy
  unfold cutA cutQ
  rw [HT.sIx_nat, HT.sIx_nat, List.length_map, List.map_take, List.map_drop]
/-! ### handle_count -/
def C_count : CT := fun As m Kt => ∃ (d : Nat) (A : AV) (Bs : List AV), As = [AL.int d, A] ∧ IsSeqA A Bs ∧ Kt (AL.int ((d : Int) + (Bs.length : Nat) - 1)) m
abbrev s_handle_count : Stmt := topS 35
theorem sc_handle_count : FnScope ["degree", "marks"] ["degree", "marks"] (defScope s_handle_count) := ⟨rfl, rfl, rfl, by decide +kernel, rfl, by decide +kernel, by decide +kernel⟩
include Z in
theorem F_handle_count {f : Addr} {fd : FuncData} (F : Fun K "handle_count" "handle_count" s_handle_count f fd) (hm : mg "handle_count" = some (.ref f)) (hb : Binds K fd ["degree", "marks"] []) : FnC P w K mg base 1 "handle_count" C_count := by
  refine fnC F sc_handle_count hm hb (fun As m Kt ⟨d, A, Bs, h, _⟩ => by rw [h]; rfl) fun X a As m Kt ⟨d, A, Bs, e1, hs, q⟩ => ?_
  subst e1
  refine wss_cons ?_
  refine ws_ret ?_
  refine we_sub ?_
  refine we_add ?_
  refine we_name a 0 rfl (.inl rfl) rfl ?_
  refine b_len a Z rfl ?_
  refine wa_cons ?_
  refine we_name a 1 rfl (.inl rfl) rfl ?_
  refine wa_nil ?_
  refine ⟨_, _, rfl, hs.sq, ?_⟩
  refine ⟨_, _, rfl, rfl, ?_⟩
  refine we_int ?_
  refine ⟨_, _, rfl, rfl, ?_⟩
  exact bodyE.ret q
end
end HB
namespace HB
open PySem PySem.Spec L2 AL
open PyProof.Rows hiding St
section
variable {P : Program} {w : World} {K : PySem.W.Frag} {mg : Str → Option Value} {base : Heap} (Z : Blt mg)
variable {N : List Str} {sc : Scope} {df : Bool} {k : Nat} {X : Cx} {ρ : Rho} {m : Mem} {Kt : KA} {pos : Pos} {e f : Expr} {C : Addr}
/-! ### value -/
def C_value (C : Addr) : CT := fun As m Kt => ∃ (d : Nat) (qs hs : List Q2) (T : AV) (t r : Q2), As = [bendV C d qs hs, T] ∧ (∀ q ∈ qs, Norm q) ∧ hs.length ≤ 900 ∧ IsV T t ∧ valueO d qs hs t = some r ∧ Kt (qv r) m
abbrev s_value : Stmt := topS 39
theorem sc_value : FnScope ["bend", "time", "handle", "weight"] ["bend", "time"] (defScope s_value) := ⟨rfl, rfl, rfl, by decide +kernel, rfl, by decide +kernel, by decide +kernel⟩
include Z in
theorem F_value (B : BendF K C) (GT : FnC P w K mg base 3 "total" C_total) (GW : FnC P w K mg base 5 "weights" C_weights) (GM : FnC P w K mg base 2 "multiplied" (C_opO mulO)) {f : Addr} {fd : FuncData} (F : Fun K "value" "value" s_value f fd) (hm : mg "value" = some (.ref f)) (hb : Binds K fd ["bend", "time"] []) : FnC P w K mg base 6 "value" (C_value C) := by
  refine fnC F sc_value hm hb (fun As m Kt ⟨d, qs, hs, T, t, r, h, _⟩ => by rw [h]; rfl) fun X a As m Kt ⟨d, qs, hs, T, t, r, e1, hn, hl, hT, hr, q⟩ => ?_
  subst e1
  obtain ⟨ws, h1, hr⟩ := Option.bind_eq_some_iff.mp hr
  obtain ⟨ps, h2, hr⟩ := Option.bind_eq_some_iff.mp hr
  obtain ⟨ml, mg'⟩ := mapM_get h2
  rw [List.length_zip] at ml
  refine wss_cons ?_
  refine ws_ret ?_
  refine we_call a GT (by decide) rfl ?_
  refine wa_cons ?_
  refine WN.we (wn_lc2 a 2 3 (by decide +kernel) (by decide) rfl rfl rfl rfl ?_)
  refine wi_zip a rfl Z.zip ?_
  refine fldA a B.cls B.han ?_
  refine we_name a 0 rfl (.inl rfl) rfl ?_
  refine ⟨_, _, rfl, rfl, ?_⟩
  refine we_call a GW (by decide) rfl ?_
  refine wa_cons ?_
  refine fldA a B.cls B.deg ?_
  refine we_name a 0 rfl (.inl rfl) rfl ?_
  refine ⟨_, _, rfl, rfl, ?_⟩
  refine wa_cons ?_
  refine fldA a B.cls B.mar ?_
  refine we_name a 0 rfl (.inl rfl) rfl ?_
  refine ⟨_, _, rfl, rfl, ?_⟩
  refine wa_cons ?_
  refine we_name a 1 rfl (.inl rfl) rfl ?_
  refine wa_nil ?_
  refine ⟨[], m, rfl, d, _, _, qs, T, t, ws, rfl, .inr rfl, norm_vs hn, hT, h1, ?_⟩
  refine ⟨_, _, .inr ⟨rfl, rfl⟩, ?_⟩
  refine ⟨_, _, rfl, by rw [pairA_len, List.length_map, List.length_map]; omega, fun i acc m' => m' = m ∧ acc = (ps.map qv).take i, ⟨rfl, by simp⟩, fun i acc m2 A1 A2 hA1 hA2 hW X' hX => ?_, fun acc m2 hW => ?_⟩
  · obtain ⟨rfl, rfl⟩ := hW
    have b := hX.at_ a
    rw [List.getElem?_map] at hA1 hA2
    obtain ⟨x, hx, rfl⟩ := Option.map_eq_some_iff.mp hA1
    obtain ⟨y, hy, rfl⟩ := Option.map_eq_some_iff.mp hA2
    have hz : (hs.zip ws)[i]? = some (x, y) := by rw [List.getElem?_zip_eq_some]; exact ⟨hx, hy⟩
    obtain ⟨z, hz1, hz2⟩ := mg' i _ hz
    refine we_call b GM (by decide) rfl ?_
    refine wa_cons ?_
    refine we_name b 2 rfl (.inl rfl) rfl ?_
    refine wa_cons ?_
    refine we_name b 3 rfl (.inl rfl) rfl ?_
    refine wa_nil ?_
    refine ⟨[], _, rfl, _, _, _, rfl, hz1, ?_⟩
    exact ⟨rfl, (take_snoc (by rw [List.getElem?_map, hz2]; rfl)).symm⟩
  · obtain ⟨rfl, rfl⟩ := hW
    rw [List.take_of_length_le (l := ps.map qv) (by rw [List.length_map, ml, List.length_map, List.length_map]; exact Nat.le_refl _)]
    refine wa_nil ?_
    refine ⟨[], _, rfl, _, _, _, rfl, .inl rfl, hr, ?_⟩
    exact bodyE.ret q
end
end HB
namespace HB
open PySem PySem.Spec L2 AL
open PyProof.Rows hiding St
def tailQ (l : List Q2) (a : Nat) : List Q2 := (l.drop (min a l.length)).take (l.length - min a l.length)
def innerM (qs : List Q2) : List Q2 := cutQ qs 1 (qs.length - 1)
def marksO (d : Nat) (qs : List Q2) : Bool :=
  decide (2 ≤ qs.length) && decide (qs.length ≤ 900) && (lessO (qs.getD 0 Q0) (qs.getD 1 Q0) == some true) && (lessO (qs.getD (qs.length - 2) Q0) (qs.getD (qs.length - 1) Q0) == some true)
    && ((innerM qs).zip (tailQ (innerM qs) 1)).all (fun p => lessO p.2 p.1 == some false) && ((innerM qs).zip (tailQ (innerM qs) d)).all (fun p => decide (p.1 ≠ p.2))
section
variable {P : Program} {w : World} {K : PySem.W.Frag} {mg : Str → Option Value} {base : Heap} (Z : Blt mg)
variable {N : List Str} {sc : Scope} {df : Bool} {k : Nat} {X : Cx} {ρ : Rho} {m : Mem} {Kt : KA} {pos : Pos} {e f : Expr} {C : Addr}
theorem at_neg {l : List Q2} {n : Nat} {z : Int} {q : Q2} (hn : 0 < n) (hl : n ≤ l.length) (h : l[l.length - n]? = some q) (hz : z = -(n : Int)) : L2.atI (l.map qv) z = some (qv q) := by
  subst hz
  have e : ixN (l.map qv).length (-(n : Int)) = some (l.length - n) := by
    unfold ixN
    rw [if_neg (by omega), List.length_map, if_pos (by omega)]
    congr 1
    omega
  unfold L2.atI
  rw [e]
  show (l.map qv)[l.length - n]? = _
  rw [List.getElem?_map, h]
  rfl
theorem getD_some {l : List Q2} {n : Nat} (h : n < l.length) : l[n]? = some (l.getD n Q0) := by
  rw [List.getD_eq_getElem?_getD, List.getElem?_eq_getElem h]
  rfl
theorem cut_in {l : List Q2} (h : 2 ≤ l.length) : cutA (l.map qv) (some 1) (some (-1)) = (innerM l).map qv := by
  unfold cutA innerM cutQ
  have e1 : HT.sIx (l.map qv).length 0 (some 1) = min 1 l.length := by rw [List.length_map]; exact HT.sIx_nat _ _ 1
  have e2 : HT.sIx (l.map qv).length (l.map qv).length (some (-1)) = min (l.length - 1) l.length := by
    show (if (-1 : Int) < 0 then ((-1 : Int) + ((l.map qv).length : Nat)).toNat else min (-1 : Int).toNat (l.map qv).length) = _
    rw [if_pos (by decide), List.length_map]
    omega
  rw [e1, e2, List.map_take, List.map_drop]
theorem cut_tail {l : List Q2} {a : Nat} {x : Int} (h : x = (a : Int)) : cutA (l.map qv) (some x) none = (tailQ l a).map qv := by
  subst h
  unfold cutA tailQ
  rw [HT.sIx_nat, HT.sIx_none, List.length_map, List.map_take, List.map_drop]
/-! ### _are_marks -/
def C_are_marks : CT := fun As m Kt => ∃ (d : Nat) (A : AV) (Bs : List AV) (qs : List Q2), As = [AL.int d, A] ∧ IsSeqA A Bs ∧ IsVs Bs qs ∧ marksO d qs = true ∧ Kt (AL.bool true) m
abbrev s_are_marks : Stmt := topS 33
theorem sc_are_marks : FnScope ["degree", "marks", "row", "inner", "early", "late"] ["degree", "marks"] (defScope s_are_marks) := ⟨rfl, rfl, rfl, by decide +kernel, rfl, by decide +kernel, by decide +kernel⟩
theorem rep_false {n : Nat} : (List.replicate n false).any id = false := by simp
theorem zip_all {p : Q2 × Q2 → Bool} {xs ys : List Q2} (h : (xs.zip ys).all p = true) {i : Nat} {x y : Q2} (hx : xs[i]? = some x) (hy : ys[i]? = some y) : p (x, y) = true := by
  rw [List.all_eq_true] at h
  exact h _ (List.mem_of_getElem? (List.getElem?_zip_eq_some.mpr ⟨hx, hy⟩))
include Z in
theorem F_are_marks (GV : FnC P w K mg base 3 "are_values" C_are_values) (GP : FnC P w K mg base 2 "pairs" C_pairs) (GL : FnC P w K mg base 1 "is_less" C_lessO) {f : Addr} {fd : FuncData} (F : Fun K "_are_marks" "_are_marks" s_are_marks f fd) (hm : mg "_are_marks" = some (.ref f)) (hb : Binds K fd ["degree", "marks"] []) : FnC P w K mg base 4 "_are_marks" C_are_marks := by
  refine fnC F sc_are_marks hm hb (fun As m Kt ⟨d, A, Bs, qs, h, _⟩ => by rw [h]; rfl) fun X a As m Kt ⟨d, A, Bs, qs, e1, hs, hv, hk, q⟩ => ?_
  subst e1
  unfold marksO at hk
  simp only [Bool.and_eq_true, decide_eq_true_eq, beq_iff_eq] at hk
  obtain ⟨⟨⟨⟨⟨h2, h900⟩, hl1⟩, hl2⟩, hz1⟩, hz2⟩ := hk
  have ql : Bs.length = qs.length := Paired.length hv
  generalize hin : innerM qs = inn at *
  have il : inn.length ≤ 900 := by rw [← hin]; unfold innerM cutQ; simp; omega
  refine wss_cons ?_
  refine ws_if ?_
  refine wt_of ?_
  refine ww_or ?_
  refine wt_not ?_
  refine wt_val ?_
  refine we_call a GV (by decide) rfl ?_
  refine wa_cons ?_
  refine we_name a 1 rfl (.inl rfl) rfl ?_
  refine wa_nil ?_
  refine ⟨[], m, rfl, _, _, _, rfl, hs, hv, by omega, ?_⟩
  refine ⟨_, rfl, ?_⟩
  refine brF rfl ?_
  refine ww_or1 ?_
  refine wt_icmp op_lt rfl ?_
  refine b_len a Z rfl ?_
  refine wa_cons ?_
  refine we_name a 1 rfl (.inl rfl) rfl ?_
  refine wa_nil ?_
  refine ⟨_, _, rfl, hs.sq, ?_⟩
  refine we_int ?_
  refine ⟨_, _, rfl, rfl, ?_⟩
  refine brF (decide_eq_false (by omega)) ?_
  refine wss_nil ?_
  refine wss_cons ?_
  refine ws_set a 2 rfl (.inl rfl) ?_
  refine we_call a GP (by decide) rfl ?_
  refine wa_cons ?_
  refine we_name a 1 rfl (.inl rfl) rfl ?_
  refine wa_nil ?_
  refine ⟨[], m, rfl, _, _, _, rfl, hs, hv, by omega, ?_⟩
  refine wss_cons ?_
  refine ws_set a 3 rfl (.inl rfl) ?_
  refine we_tsl ?_
  refine we_name a 2 rfl (.inl rfl) rfl ?_
  show WE _ _ _ _ _
  refine we_int ?_
  refine ⟨_, rfl, ?_⟩
  show WE _ _ _ _ _
  refine we_neg ?_
  refine we_int ?_
  refine ⟨_, rfl, ?_⟩
  refine ⟨_, rfl, ?_⟩
  refine ⟨_, rfl, ?_⟩
  rw [cut_in h2, hin]
  refine wss_cons ?_
  refine ws_if ?_
  refine wt_of ?_
  refine ww_or ?_
  refine wt_not ?_
  refine wt_val ?_
  refine we_call a GL (by decide) rfl ?_
  refine wa_cons ?_
  refine we_ix ?_
  refine we_name a 2 rfl (.inl rfl) rfl ?_
  refine we_int ?_
  refine ⟨_, _, _, isSq_tup, rfl, atN (getD_some (n := 0) (by omega)) rfl, ?_⟩
  refine wa_cons ?_
  refine we_ix ?_
  refine we_name a 2 rfl (.inl rfl) rfl ?_
  refine we_int ?_
  refine ⟨_, _, _, isSq_tup, rfl, atN (getD_some (n := 1) (by omega)) rfl, ?_⟩
  refine wa_nil ?_
  refine ⟨[], m, rfl, _, _, _, rfl, hl1, ?_⟩
  refine ⟨_, rfl, ?_⟩
  refine brF rfl ?_
  refine ww_or1 ?_
  refine wt_not ?_
  refine wt_val ?_
  refine we_call a GL (by decide) rfl ?_
  refine wa_cons ?_
  refine we_ix ?_
  refine we_name a 2 rfl (.inl rfl) rfl ?_
  refine we_neg ?_
  refine we_int ?_
  refine ⟨_, rfl, ?_⟩
  refine ⟨_, _, _, isSq_tup, rfl, at_neg (n := 2) (by omega) (by omega) (getD_some (by omega)) rfl, ?_⟩
  refine wa_cons ?_
  refine we_ix ?_
  refine we_name a 2 rfl (.inl rfl) rfl ?_
  refine we_neg ?_
  refine we_int ?_
  refine ⟨_, rfl, ?_⟩
  refine ⟨_, _, _, isSq_tup, rfl, at_neg (n := 1) (by omega) (by omega) (getD_some (by omega)) rfl, ?_⟩
  refine wa_nil ?_
  refine ⟨[], m, rfl, _, _, _, rfl, hl2, ?_⟩
  refine ⟨_, rfl, ?_⟩
  refine brF rfl ?_
  refine wss_nil ?_
  refine wss_cons ?_
  refine ws_if ?_
  refine wt_val ?_
  refine b_any a Z rfl ?_
  refine wa_cons ?_
  refine WN.we (wn_lc2 a 4 5 (by decide +kernel) (by decide) rfl rfl rfl rfl ?_)
  refine wi_zip a rfl Z.zip ?_
  refine we_name a 3 rfl (.inl rfl) rfl ?_
  refine we_tsl ?_
  refine we_name a 3 rfl (.inl rfl) rfl ?_
  show WE _ _ _ _ _
  refine we_int ?_
  refine ⟨_, rfl, ?_⟩
  refine ⟨_, rfl, ?_⟩
  rw [cut_tail (a := 1) (x := 1) rfl]
  refine ⟨_, _, .inr ⟨rfl, rfl⟩, ?_⟩
  refine ⟨_, _, rfl, by rw [pairA_len, List.length_map, List.length_map]; omega, fun i acc m' => m' = m ∧ acc = List.replicate i (AL.bool false), ⟨rfl, rfl⟩, fun i acc m2 A1 A2 hA1 hA2 hW X' hX => ?_, fun acc m2 hW => ?_⟩
  · obtain ⟨rfl, rfl⟩ := hW
    have b := hX.at_ a
    rw [List.getElem?_map] at hA1 hA2
    obtain ⟨x, hx, rfl⟩ := Option.map_eq_some_iff.mp hA1
    obtain ⟨y, hy, rfl⟩ := Option.map_eq_some_iff.mp hA2
    have hp := zip_all hz1 hx hy
    simp only [beq_iff_eq] at hp
    refine we_call b GL (by decide) rfl ?_
    refine wa_cons ?_
    refine we_name b 5 rfl (.inl rfl) rfl ?_
    refine wa_cons ?_
    refine we_name b 4 rfl (.inl rfl) rfl ?_
    refine wa_nil ?_
    refine ⟨[], _, rfl, _, _, _, rfl, hp, ?_⟩
    exact ⟨rfl, by rw [List.replicate_succ']⟩
  · obtain ⟨rfl, rfl⟩ := hW
    refine wa_nil ?_
    refine ⟨List.replicate _ false, by rw [List.map_replicate], ?_⟩
    refine ⟨_, rfl, ?_⟩
    refine brF rep_false ?_
    refine wss_nil ?_
    refine wss_cons ?_
    refine ws_ret ?_
    refine we_not ?_
    refine b_any a Z rfl ?_
    refine wa_cons ?_
    refine WN.we (wn_lc2 a 4 5 (by decide +kernel) (by decide) rfl rfl rfl rfl ?_)
    refine wi_zip a rfl Z.zip ?_
    refine we_name a 3 rfl (.inl rfl) rfl ?_
    refine we_tsl ?_
    refine we_name a 3 rfl (.inl rfl) rfl ?_
    show WE _ _ _ _ _
    refine we_name a 0 rfl (.inl rfl) rfl ?_
    refine ⟨_, rfl, ?_⟩
    refine ⟨_, rfl, ?_⟩
    rw [cut_tail (a := d) (x := (d : Int)) rfl]
    refine ⟨_, _, .inr ⟨rfl, rfl⟩, ?_⟩
    refine ⟨_, _, rfl, by rw [pairA_len, List.length_map, List.length_map]; omega, fun i acc m' => m' = m2 ∧ acc = List.replicate i (AL.bool false), ⟨rfl, rfl⟩, fun i acc m3 A1 A2 hA1 hA2 hW X' hX => ?_, fun acc m3 hW => ?_⟩
    · obtain ⟨rfl, rfl⟩ := hW
      have b := hX.at_ a
      rw [List.getElem?_map] at hA1 hA2
      obtain ⟨x, hx, rfl⟩ := Option.map_eq_some_iff.mp hA1
      obtain ⟨y, hy, rfl⟩ := Option.map_eq_some_iff.mp hA2
      have hp := zip_all hz2 hx hy
      simp only [decide_eq_true_eq] at hp
      refine we_cmp (op_eqD (hu_at b)) abs_eqD rfl ?_
      refine we_name b 4 rfl (.inl rfl) rfl ?_
      refine we_name b 5 rfl (.inl rfl) rfl ?_
      refine ⟨_, _, dat_q, dat_q, rfl, rfl, ?_⟩
      rw [eqv_q, decide_eq_false hp]
      exact ⟨rfl, by rw [List.replicate_succ']⟩
    · obtain ⟨rfl, rfl⟩ := hW
      refine wa_nil ?_
      refine ⟨List.replicate _ false, by rw [List.map_replicate], ?_⟩
      refine ⟨_, rfl, ?_⟩
      rw [rep_false]
      exact bodyE.ret q
/-! ### Bend(..) -/
def R_bend : List AV → KF → Prop := fun As k => ∃ (d : Nat) (A : AV) (Bs : List AV) (qs : List Q2) (D : AV) (Ds : List AV) (hs : List Q2), As = [AL.int d, A, D] ∧ IsSeqA A Bs ∧ IsVs Bs qs ∧ marksO d qs = true ∧ IsSeqA D Ds ∧ IsVs Ds hs ∧ hs.length ≤ 900 ∧ hs.length + 1 = d + qs.length ∧ k (bendF d qs hs)
abbrev s_binit : Stmt := inClass (topS 32) 0
theorem sc_binit : FnScope ["self", "degree", "marks", "handles"] ["self", "degree", "marks", "handles"] (defScope s_binit) := ⟨rfl, rfl, rfl, by decide +kernel, rfl, by decide +kernel, by decide +kernel⟩
include Z in
theorem C_bend (B : BendF K C) (GW : FnC P w K mg base 1 "is_whole" C_is_whole) (GM : FnC P w K mg base 4 "_are_marks" C_are_marks) (GV : FnC P w K mg base 3 "are_values" C_are_values) (GH : FnC P w K mg base 1 "handle_count" C_count) (GP : FnC P w K mg base 2 "pairs" C_pairs) (hm : mg "Bend" = some (.ref C))
    {g : Addr} {fd : FuncData} (F : Fun K "__init__" "Bend.__init__" s_binit g fd) (mk : L2.Mk K C g) (hb : L2.Binds K fd ["self", "degree", "marks", "handles"] []) : ClsC P w K mg base 5 "Bend" C R_bend := by
  refine ⟨B.cls, hm, fun As k k' ⟨d, A, Bs, qs, D, Ds, hs, e, h1, h2, h3, h4, h5, h6, h7, q⟩ kk => ⟨d, A, Bs, qs, D, Ds, hs, e, h1, h2, h3, h4, h5, h6, h7, kk _ q⟩, g, fd, _, mk, hb, ?_⟩
  refine fnOk F sc_binit (fun As m Kt ⟨q, Bs, e, _, ⟨_, _, _, _, _, _, _, e2, _⟩⟩ => by rw [e, e2]; rfl) fun X a As m Kt ⟨sf, Cs, e0, em, ⟨d, A, Bs, qs, D, Ds, hs, e1, hA, hv, hmk, hD, hv2, hl9, hcn, q⟩⟩ => ?_
  subst e0 em e1
  have ql : Bs.length = qs.length := Paired.length hv
  have dl : Ds.length = hs.length := Paired.length hv2
  have hmk' := hmk
  unfold marksO at hmk'
  simp only [Bool.and_eq_true, decide_eq_true_eq, beq_iff_eq] at hmk'
  have q9 : qs.length ≤ 900 := hmk'.1.1.1.1.2
  refine wss_cons ?_
  refine ws_if ?_
  refine wt_of ?_
  refine ww_or ?_
  refine wt_not ?_
  refine wt_val ?_
  refine we_call a GW (by decide) rfl ?_
  refine wa_cons ?_
  refine we_name a 1 rfl (.inl rfl) rfl ?_
  refine wa_nil ?_
  refine ⟨[], _, rfl, _, _, rfl, ty_int, by decide, ?_⟩
  refine ⟨_, rfl, ?_⟩
  refine brF rfl ?_
  refine ww_or1 ?_
  refine wt_icmp op_lt rfl ?_
  refine we_name a 1 rfl (.inl rfl) rfl ?_
  refine we_int ?_
  refine ⟨_, _, rfl, rfl, ?_⟩
  refine brF (decide_eq_false (by omega)) ?_
  refine wss_nil ?_
  refine wss_cons ?_
  refine ws_if ?_
  refine wt_not ?_
  refine wt_val ?_
  refine we_call a GM (by decide) rfl ?_
  refine wa_cons ?_
  refine we_name a 1 rfl (.inl rfl) rfl ?_
  refine wa_cons ?_
  refine we_name a 2 rfl (.inl rfl) rfl ?_
  refine wa_nil ?_
  refine ⟨[], _, rfl, d, _, _, _, rfl, hA, hv, hmk, ?_⟩
  refine ⟨_, rfl, ?_⟩
  refine brF rfl ?_
  refine wss_nil ?_
  refine wss_cons ?_
  refine ws_if ?_
  refine wt_of ?_
  refine ww_or ?_
  refine wt_not ?_
  refine wt_val ?_
  refine we_call a GV (by decide) rfl ?_
  refine wa_cons ?_
  refine we_name a 3 rfl (.inl rfl) rfl ?_
  refine wa_nil ?_
  refine ⟨[], _, rfl, _, _, _, rfl, hD, hv2, by omega, ?_⟩
  refine ⟨_, rfl, ?_⟩
  refine brF rfl ?_
  refine ww_or1 ?_
  refine wt_icmp op_neI rfl ?_
  refine b_len a Z rfl ?_
  refine wa_cons ?_
  refine we_name a 3 rfl (.inl rfl) rfl ?_
  refine wa_nil ?_
  refine ⟨_, _, rfl, hD.sq, ?_⟩
  refine we_call a GH (by decide) rfl ?_
  refine wa_cons ?_
  refine we_name a 1 rfl (.inl rfl) rfl ?_
  refine wa_cons ?_
  refine we_name a 2 rfl (.inl rfl) rfl ?_
  refine wa_nil ?_
  refine ⟨[], _, rfl, d, _, _, rfl, hA, ?_⟩
  refine ⟨_, _, rfl, rfl, ?_⟩
  refine brF (by rw [decide_eq_true (by omega)]; rfl) ?_
  refine wss_nil ?_
  refine wss_cons ?_
  refine ws_fld ?_
  refine we_name a 1 rfl (.inl rfl) rfl ?_
  refine we_name a 0 rfl (.inl rfl) rfl ?_
  refine ⟨sf, C, [], [], [], rfl, rfl, by rw [a.kt]; exact B.cls, by rw [a.kt]; exact B.deg, by show 0 < 1000; decide, rfl, ?_⟩
  refine wss_cons ?_
  refine ws_fld ?_
  refine we_call a GP (by decide) rfl ?_
  refine wa_cons ?_
  refine we_name a 2 rfl (.inl rfl) rfl ?_
  refine wa_nil ?_
  refine ⟨[], _, rfl, _, _, _, rfl, hA, hv, by omega, ?_⟩
  refine we_name a 0 rfl (.inl rfl) rfl ?_
  refine ⟨sf, C, _, [], [], rfl, rfl, by rw [a.kt]; exact B.cls, by rw [a.kt]; exact B.mar, by show 1 < 1000; decide, rfl, ?_⟩
  refine wss_cons ?_
  refine ws_fld ?_
  refine we_call a GP (by decide) rfl ?_
  refine wa_cons ?_
  refine we_name a 3 rfl (.inl rfl) rfl ?_
  refine wa_nil ?_
  refine ⟨[], _, rfl, _, _, _, rfl, hD, hv2, by omega, ?_⟩
  refine we_name a 0 rfl (.inl rfl) rfl ?_
  refine ⟨sf, C, _, [], [], rfl, rfl, by rw [a.kt]; exact B.cls, by rw [a.kt]; exact B.han, by show 2 < 1000; decide, rfl, ?_⟩
  refine wss_nil ?_
  exact ⟨_, [], by simp, q⟩
end
end HB
namespace HB
open PySem PySem.Spec L2 AL
open PyProof.Rows hiding St
/-! ### what a law draws -/
abbrev boxC (b : Addr) (c s n : Int) : Mem := [(b, .l [AL.int c, AL.int s, AL.int n])]
theorem mulR {i j : Int} (h1 : -(2 ^ 64) < j) (h2 : j < 2 ^ 64) : CMul i j := .inr ⟨h1, h2⟩
theorem mulL {i j : Int} (h1 : -(2 ^ 64) < i) (h2 : i < 2 ^ 64) : CMul i j := .inl ⟨h1, h2⟩
theorem div40 {i j : Int} (h : 0 < j) (h2 : j < 2 ^ 40) : CDivW i j := wide_div (b := 40) h (by omega) (by decide) (by decide)
section
variable {P : Program} {w : World} {K : PySem.W.Frag} {mg : Str → Option Value} {base : Heap} (Z : Blt mg)
def C_box : CT := fun As m Kt => ∃ (ns : List Int) (k own : Int), As = [scr (ns.map AL.int), AL.int k, AL.int own] ∧ 0 ≤ k ∧ k < 1000 ∧ -1000 < own ∧ own < 1000 ∧ m = [] ∧ ∀ b c s, Kt (val (.ref b)) (boxC b c s 0)
abbrev s_box : Stmt := topS 45
theorem sc_box : FnScope ["_law_script", "_law_k", "_law_own", "_law_cell", "_law_seed"] ["_law_script", "_law_k", "_law_own"] (defScope s_box) := ⟨rfl, rfl, rfl, by decide +kernel, rfl, by decide +kernel, by decide +kernel⟩
theorem at_script {ns : List Int} {k : Int} (h0 : 0 ≤ k) (h1 : k < ns.length) : ∃ n, L2.atI (ns.map AL.int) k = some (AL.int n) := by
  obtain ⟨n, rfl⟩ : ∃ n : Nat, k = (n : Int) := ⟨k.toNat, by omega⟩
  have hn : n < ns.length := by omega
  exact ⟨ns[n], atI_nat (by rw [List.getElem?_map, List.getElem?_eq_getElem hn]; rfl)⟩
include Z in
theorem F_box {f : Addr} {fd : FuncData} (F : Fun K "_law_box" "_law_box" s_box f fd) (hm : mg "_law_box" = some (.ref f)) (hb : Binds K fd ["_law_script", "_law_k", "_law_own"] []) : FnC P w K mg base 1 "_law_box" C_box := by
  refine fnC F sc_box hm hb (fun As m Kt ⟨ns, k, own, h, _⟩ => by rw [h]; rfl) fun X a As m Kt ⟨ns, k, own, e1, k0, k1, o0, o1, em, q⟩ => ?_
  subst e1 em
  have last : ∀ (c : Int), WSs X ((defBody s_box).drop 2) ((startR ["_law_script", "_law_k", "_law_own", "_law_cell", "_law_seed"] [scr (ns.map AL.int), AL.int k, AL.int own]).set 3 (some (AL.int c))) [] (bodyE Kt) := by
    intro c
    refine wss_cons ?_
    refine ws_set a 4 rfl (.inl rfl) ?_
    refine we_add ?_
    refine we_mod ?_
    refine b_int a Z rfl ?_
    refine wa_cons ?_
    refine we_add ?_
    refine we_mulS ?_
    refine we_mod ?_
    refine b_int a Z rfl ?_
    refine wa_cons ?_
    refine we_name a 3 rfl (.inl rfl) rfl ?_
    refine wa_nil ?_
    refine .inl ⟨_, rfl, ?_⟩
    refine we_int ?_
    refine ⟨_, _, rfl, rfl, by decide, ?_⟩
    refine we_int ?_
    refine ⟨_, _, rfl, rfl, mulR (by decide) (by decide), ?_⟩
    refine we_mulS ?_
    refine we_int ?_
    refine we_add ?_
    refine we_name a 1 rfl (.inl rfl) rfl ?_
    refine we_mulS ?_
    refine we_int ?_
    refine we_name a 2 rfl (.inl rfl) rfl ?_
    refine ⟨_, _, rfl, rfl, mulL (by decide) (by decide), ?_⟩
    refine ⟨_, _, rfl, rfl, ?_⟩
    refine ⟨_, _, rfl, rfl, mulL (by decide) (by decide), ?_⟩
    refine ⟨_, _, rfl, rfl, ?_⟩
    refine wa_nil ?_
    refine .inl ⟨_, rfl, ?_⟩
    refine we_int ?_
    refine ⟨_, _, rfl, rfl, by decide, ?_⟩
    refine we_int ?_
    refine ⟨_, _, rfl, rfl, ?_⟩
    refine wss_cons ?_
    refine ws_retN ?_
    refine wn_list ?_
    refine wa_cons ?_
    refine we_ix ?_
    refine WN.we (wn_list ?_)
    refine wa_cons ?_
    refine we_int ?_
    refine wa_cons ?_
    refine we_name a 3 rfl (.inl rfl) rfl ?_
    refine wa_nil ?_
    refine ⟨(by decide : 2 ≤ 1000), ?_⟩
    refine b_int a Z rfl ?_
    refine wa_cons ?_
    refine we_icmp op_ge rfl ?_
    refine we_name a 3 rfl (.inl rfl) rfl ?_
    refine we_pow ?_
    refine we_int ?_
    refine we_int ?_
    refine ⟨_, _, rfl, rfl, by unfold CPow; decide, ?_⟩
    refine ⟨_, _, rfl, rfl, ?_⟩
    refine wa_nil ?_
    refine .inr ⟨_, rfl, ?_⟩
    obtain ⟨x, hx⟩ : ∃ x : Int, L2.atI [AL.int 0, AL.int c] (if decide ((10 : Int) ^ (18 : Int).toNat ≤ c) = true then 1 else 0) = some (AL.int x) := by
      cases decide ((10 : Int) ^ (18 : Int).toNat ≤ c) with
      | true => exact ⟨c, atI_nat (j := 1) rfl⟩
      | false => exact ⟨0, atI_nat (j := 0) rfl⟩
    refine ⟨_, _, _, isSq_lst, rfl, hx, ?_⟩
    refine wa_cons ?_
    refine we_name a 4 rfl (.inl rfl) rfl ?_
    refine wa_cons ?_
    refine we_int ?_
    refine wa_nil ?_
    refine ⟨(by decide : 3 ≤ 1000), ?_⟩
    exact fun b => bodyE.ret (q b _ _)
  refine wss_cons ?_
  refine ws_set a 3 rfl (.inl rfl) ?_
  refine we_add ?_
  refine we_add ?_
  refine we_mulS ?_
  refine we_int ?_
  refine we_name a 1 rfl (.inl rfl) rfl ?_
  refine ⟨_, _, rfl, rfl, mulL (by decide) (by decide), ?_⟩
  refine we_mulS ?_
  refine we_int ?_
  refine we_name a 2 rfl (.inl rfl) rfl ?_
  refine ⟨_, _, rfl, rfl, mulL (by decide) (by decide), ?_⟩
  refine ⟨_, _, rfl, rfl, ?_⟩
  refine we_int ?_
  refine ⟨_, _, rfl, rfl, ?_⟩
  refine wss_cons ?_
  refine ws_if ?_
  refine wt_icmp op_lt rfl ?_
  refine we_name a 1 rfl (.inl rfl) rfl ?_
  refine b_len a Z rfl ?_
  refine wa_cons ?_
  refine we_name a 0 rfl (.inl rfl) rfl ?_
  refine wa_nil ?_
  refine ⟨_, _, rfl, isSq_scr, ?_⟩
  refine ⟨_, _, rfl, rfl, ?_⟩
  rw [List.length_map]
  refine br (fun h1 => ?_) (fun h1 => ?_)
  · have h1 := of_decide_eq_true h1
    obtain ⟨n, hn⟩ := at_script k0 h1
    refine wss_cons ?_
    refine ws_set a 3 rfl (.inl rfl) ?_
    refine b_abs a Z rfl ?_
    refine wa_cons ?_
    refine we_ix ?_
    refine we_name a 0 rfl (.inl rfl) rfl ?_
    refine we_name a 1 rfl (.inl rfl) rfl ?_
    refine ⟨_, _, _, isSq_scr, rfl, hn, ?_⟩
    refine wa_nil ?_
    refine ⟨_, rfl, ?_⟩
    refine wss_nil ?_
    exact last _
  · refine wss_cons ?_
    refine ws_if ?_
    refine wt_icmp op_gt rfl ?_
    refine b_len a Z rfl ?_
    refine wa_cons ?_
    refine we_name a 0 rfl (.inl rfl) rfl ?_
    refine wa_nil ?_
    refine ⟨_, _, rfl, isSq_scr, ?_⟩
    refine we_int ?_
    refine ⟨_, _, rfl, rfl, ?_⟩
    rw [List.length_map]
    refine br (fun h2 => ?_) (fun h2 => ?_)
    · have h2 := of_decide_eq_true h2
      obtain ⟨n, hn⟩ := at_script (ns := ns) (k := k % (ns.length : Nat)) (Int.emod_nonneg _ (by omega)) (Int.emod_lt_of_pos _ h2)
      refine wss_cons ?_
      refine ws_set a 3 rfl (.inl rfl) ?_
      refine we_add ?_
      refine we_name a 3 rfl (.inl rfl) rfl ?_
      refine we_mulS ?_
      refine we_mod ?_
      refine b_int a Z rfl ?_
      refine wa_cons ?_
      refine b_abs a Z rfl ?_
      refine wa_cons ?_
      refine we_ix ?_
      refine we_name a 0 rfl (.inl rfl) rfl ?_
      refine we_mod ?_
      refine b_int a Z rfl ?_
      refine wa_cons ?_
      refine we_name a 1 rfl (.inl rfl) rfl ?_
      refine wa_nil ?_
      refine .inl ⟨_, rfl, ?_⟩
      refine b_len a Z rfl ?_
      refine wa_cons ?_
      refine we_name a 0 rfl (.inl rfl) rfl ?_
      refine wa_nil ?_
      refine ⟨_, _, rfl, isSq_scr, ?_⟩
      rw [List.length_map]
      refine ⟨_, _, rfl, rfl, h2, ?_⟩
      refine ⟨_, _, _, isSq_scr, rfl, hn, ?_⟩
      refine wa_nil ?_
      refine ⟨_, rfl, ?_⟩
      refine wa_nil ?_
      refine .inl ⟨_, rfl, ?_⟩
      refine we_int ?_
      refine ⟨_, _, rfl, rfl, by decide, ?_⟩
      refine we_int ?_
      refine ⟨_, _, rfl, rfl, mulR (by decide) (by decide), ?_⟩
      refine ⟨_, _, rfl, rfl, ?_⟩
      refine wss_nil ?_
      refine wss_nil ?_
      exact last _
    · refine wss_nil ?_
      refine wss_nil ?_
      exact last _
/-! ### _law_take, _law_pick -/
def C_take : CT := fun As m Kt => ∃ (b : Addr) (c s n bound : Int), As = [val (.ref b), AL.int bound] ∧ m = boxC b c s n ∧ 0 < bound ∧ bound < 2 ^ 40 ∧ ∀ r c' s' n', 0 ≤ r → r < bound → Kt (AL.int r) (boxC b c' s' n')
abbrev s_take : Stmt := topS 46
theorem sc_take : FnScope ["_law_box_here", "_law_bound", "_law_digit", "_law_raw", "_law_wide"] ["_law_box_here", "_law_bound"] (defScope s_take) := ⟨rfl, rfl, rfl, by decide +kernel, rfl, by decide +kernel, by decide +kernel⟩
theorem bx {b : Addr} {c s n : Int} : IsSq (boxC b c s n) (val (.ref b)) [AL.int c, AL.int s, AL.int n] := (isLs_mut (by simp)).sq
include Z in
theorem F_take {f : Addr} {fd : FuncData} (F : Fun K "_law_take" "_law_take" s_take f fd) (hm : mg "_law_take" = some (.ref f)) (hb : Binds K fd ["_law_box_here", "_law_bound"] []) : FnC P w K mg base 1 "_law_take" C_take := by
  refine fnC F sc_take hm hb (fun As m Kt ⟨b, c, s, n, bound, h, _⟩ => by rw [h]; rfl) fun X a As m Kt ⟨b, c, s, n, bound, e1, em, b0, b1, q⟩ => ?_
  subst e1 em
  refine wss_cons ?_
  refine ws_if ?_
  refine wt_icmp op_gt rfl ?_
  refine we_ix ?_
  refine we_name a 0 rfl (.inl rfl) rfl ?_
  refine we_int ?_
  refine ⟨_, _, _, bx, rfl, rfl, ?_⟩
  refine we_int ?_
  refine ⟨_, _, rfl, rfl, ?_⟩
  refine br (fun h1 => ?_) (fun h1 => ?_)
  · refine wss_cons ?_
    refine ws_set a 2 rfl (.inl rfl) ?_
    refine we_mod ?_
    refine b_int a Z rfl ?_
    refine wa_cons ?_
    refine we_ix ?_
    refine we_name a 0 rfl (.inl rfl) rfl ?_
    refine we_int ?_
    refine ⟨_, _, _, bx, rfl, rfl, ?_⟩
    refine wa_nil ?_
    refine .inl ⟨_, rfl, ?_⟩
    refine we_name a 1 rfl (.inl rfl) rfl ?_
    refine ⟨_, _, rfl, rfl, b0, ?_⟩
    refine wss_cons ?_
    refine ws_store ?_
    refine we_fdiv ?_
    refine we_ix ?_
    refine we_name a 0 rfl (.inl rfl) rfl ?_
    refine we_int ?_
    refine ⟨_, _, _, bx, rfl, rfl, ?_⟩
    refine we_name a 1 rfl (.inl rfl) rfl ?_
    refine ⟨_, _, rfl, rfl, div40 b0 b1, ?_⟩
    refine we_name a 0 rfl (.inl rfl) rfl ?_
    refine we_int ?_
    refine ⟨b, _, [], [], _, 0, rfl, rfl, rfl, rfl, ?_⟩
    refine wss_cons ?_
    refine ws_ret ?_
    refine we_name a 2 rfl (.inl rfl) rfl ?_
    exact bodyE.ret (q _ _ _ _ (Int.emod_nonneg _ (by omega)) (Int.emod_lt_of_pos _ b0))
  · refine wss_nil ?_
    refine wss_cons ?_
    refine ws_store ?_
    refine we_add ?_
    refine we_ix ?_
    refine we_name a 0 rfl (.inl rfl) rfl ?_
    refine we_int ?_
    refine ⟨_, _, _, bx, rfl, rfl, ?_⟩
    refine we_int ?_
    refine ⟨_, _, rfl, rfl, ?_⟩
    refine we_name a 0 rfl (.inl rfl) rfl ?_
    refine we_int ?_
    refine ⟨b, _, [], [], _, 2, rfl, rfl, rfl, rfl, ?_⟩
    refine wss_cons ?_
    refine ws_set a 3 rfl (.inl rfl) ?_
    refine we_mod ?_
    refine b_int a Z rfl ?_
    refine wa_cons ?_
    refine we_mulS ?_
    refine we_add ?_
    refine we_ix ?_
    refine we_name a 0 rfl (.inl rfl) rfl ?_
    refine we_int ?_
    refine ⟨_, _, _, bx, rfl, rfl, ?_⟩
    refine we_mulS ?_
    refine we_int ?_
    refine we_ix ?_
    refine we_name a 0 rfl (.inl rfl) rfl ?_
    refine we_int ?_
    refine ⟨_, _, _, bx, rfl, rfl, ?_⟩
    refine ⟨_, _, rfl, rfl, mulL (by decide) (by decide), ?_⟩
    refine ⟨_, _, rfl, rfl, ?_⟩
    refine we_int ?_
    refine ⟨_, _, rfl, rfl, mulR (by decide) (by decide), ?_⟩
    refine wa_nil ?_
    refine .inl ⟨_, rfl, ?_⟩
    refine we_int ?_
    refine ⟨_, _, rfl, rfl, by decide, ?_⟩
    refine wss_cons ?_
    refine ws_store ?_
    refine we_add ?_
    refine we_mod ?_
    refine b_int a Z rfl ?_
    refine wa_cons ?_
    refine we_add ?_
    refine we_mulS ?_
    refine we_name a 3 rfl (.inl rfl) rfl ?_
    refine we_int ?_
    refine ⟨_, _, rfl, rfl, mulR (by decide) (by decide), ?_⟩
    refine we_int ?_
    refine ⟨_, _, rfl, rfl, ?_⟩
    refine wa_nil ?_
    refine .inl ⟨_, rfl, ?_⟩
    refine we_int ?_
    refine ⟨_, _, rfl, rfl, by decide, ?_⟩
    refine we_int ?_
    refine ⟨_, _, rfl, rfl, ?_⟩
    refine we_name a 0 rfl (.inl rfl) rfl ?_
    refine we_int ?_
    refine ⟨b, _, [], [], _, 1, rfl, rfl, rfl, rfl, ?_⟩
    refine wss_cons ?_
    refine ws_if ?_
    refine wt_icmp op_lt rfl ?_
    refine we_name a 1 rfl (.inl rfl) rfl ?_
    refine we_pow ?_
    refine we_int ?_
    refine we_int ?_
    refine ⟨_, _, rfl, rfl, by unfold CPow; decide, ?_⟩
    refine ⟨_, _, rfl, rfl, ?_⟩
    refine brT (decide_eq_true b1) ?_
    refine wss_cons ?_
    refine ws_ret ?_
    refine we_mod ?_
    refine b_int a Z rfl ?_
    refine wa_cons ?_
    refine we_fdiv ?_
    refine we_add ?_
    refine we_mulS ?_
    refine we_name a 3 rfl (.inl rfl) rfl ?_
    refine we_int ?_
    refine ⟨_, _, rfl, rfl, mulR (by decide) (by decide), ?_⟩
    refine we_ix ?_
    refine we_name a 0 rfl (.inl rfl) rfl ?_
    refine we_int ?_
    refine ⟨_, _, _, bx, rfl, rfl, ?_⟩
    refine ⟨_, _, rfl, rfl, ?_⟩
    refine we_int ?_
    refine ⟨_, _, rfl, rfl, div40 (by decide) (by decide), ?_⟩
    refine wa_nil ?_
    refine .inl ⟨_, rfl, ?_⟩
    refine we_name a 1 rfl (.inl rfl) rfl ?_
    refine ⟨_, _, rfl, rfl, b0, ?_⟩
    exact bodyE.ret (q _ _ _ _ (Int.emod_nonneg _ (by omega)) (Int.emod_lt_of_pos _ b0))
def C_pick : CT := fun As m Kt => ∃ (b : Addr) (c s n : Int) (A : AV) (Bs : List AV), As = [val (.ref b), A] ∧ m = boxC b c s n ∧ (∀ m', IsSq m' A Bs) ∧ 0 < Bs.length ∧ Bs.length < 1000 ∧ ∀ B c' s' n', B ∈ Bs → Kt B (boxC b c' s' n')
abbrev s_pick : Stmt := topS 47
theorem sc_pick : FnScope ["_law_box_here", "_law_items"] ["_law_box_here", "_law_items"] (defScope s_pick) := ⟨rfl, rfl, rfl, by decide +kernel, rfl, by decide +kernel, by decide +kernel⟩
include Z in
theorem F_pick (GT : FnC P w K mg base 1 "_law_take" C_take) {f : Addr} {fd : FuncData} (F : Fun K "_law_pick" "_law_pick" s_pick f fd) (hm : mg "_law_pick" = some (.ref f)) (hb : Binds K fd ["_law_box_here", "_law_items"] []) : FnC P w K mg base 2 "_law_pick" C_pick := by
  refine fnC F sc_pick hm hb (fun As m Kt ⟨b, c, s, n, A, Bs, h, _⟩ => by rw [h]; rfl) fun X a As m Kt ⟨b, c, s, n, A, Bs, e1, em, hs, l0, l1, q⟩ => ?_
  subst e1 em
  refine wss_cons ?_
  refine ws_ret ?_
  refine we_ix ?_
  refine we_name a 1 rfl (.inl rfl) rfl ?_
  refine we_call a GT (by decide) rfl ?_
  refine wa_cons ?_
  refine we_name a 0 rfl (.inl rfl) rfl ?_
  refine wa_cons ?_
  refine b_len a Z rfl ?_
  refine wa_cons ?_
  refine we_name a 1 rfl (.inl rfl) rfl ?_
  refine wa_nil ?_
  refine ⟨_, _, rfl, hs _, ?_⟩
  refine wa_nil ?_
  refine ⟨_, [], (List.append_nil _).symm, b, c, s, n, _, rfl, rfl, by omega, by omega, fun r c' s' n' r0 r1 => ?_⟩
  obtain ⟨i, rfl⟩ : ∃ i : Nat, r = (i : Int) := ⟨r.toNat, by omega⟩
  have hi : i < Bs.length := by omega
  refine ⟨_, _, Bs[i], hs _, rfl, atI_nat (List.getElem?_eq_getElem hi), ?_⟩
  exact bodyE.ret (q _ _ _ _ (List.getElem_mem hi))
/-! ### _law_fr -/
def frM (t b : Int) : Q2 := ((if 0 < b then 1 else -1) * t / gcdI t b, (if 0 < b then 1 else -1) * b / gcdI t b)
def C_fr : CT := fun As m Kt => ∃ (t b : Int), As = [AL.int t, AL.int b] ∧ OkR b ∧ Kt (qv (frM t b)) m
abbrev s_fr : Stmt := topS 48
theorem sc_fr : FnScope ["_law_top", "_law_bottom", "_law_one", "_law_second", "_law_sign"] ["_law_top", "_law_bottom"] (defScope s_fr) := ⟨rfl, rfl, rfl, by decide +kernel, rfl, by decide +kernel, by decide +kernel⟩
include Z in
theorem F_fr {f : Addr} {fd : FuncData} (F : Fun K "_law_fr" "_law_fr" s_fr f fd) (hm : mg "_law_fr" = some (.ref f)) (hb : Binds K fd ["_law_top", "_law_bottom"] []) : FnC P w K mg base 1 "_law_fr" C_fr := by
  refine fnC F sc_fr hm hb (fun As m Kt ⟨t, b, h, _⟩ => by rw [h]; rfl) fun X a As m Kt ⟨t, b, e1, ok, q⟩ => ?_
  subst e1
  have g0 : 0 < gcdI t b := by
    have : 0 < Nat.gcd t.natAbs b.natAbs := Nat.gcd_pos_of_pos_right _ (by have := ok.1; omega)
    unfold gcdI; omega
  have dv := okR_div (p := t) ok
  have ab : ∀ z : Int, (if z < 0 then -z else z) = ((z.natAbs : Nat) : Int) := fun z => by split <;> omega
  refine wss_cons ?_
  refine ws_par a 2 3 rfl rfl (by decide) rfl rfl rfl (by decide) (by decide) rfl rfl rfl ?_
  refine wa_cons ?_
  refine b_abs a Z rfl ?_
  refine wa_cons ?_
  refine b_int a Z rfl ?_
  refine wa_cons ?_
  refine we_name a 0 rfl (.inl rfl) rfl ?_
  refine wa_nil ?_
  refine .inl ⟨_, rfl, ?_⟩
  refine wa_nil ?_
  refine ⟨_, rfl, ?_⟩
  refine wa_cons ?_
  refine b_abs a Z rfl ?_
  refine wa_cons ?_
  refine b_int a Z rfl ?_
  refine wa_cons ?_
  refine we_name a 1 rfl (.inl rfl) rfl ?_
  refine wa_nil ?_
  refine .inl ⟨_, rfl, ?_⟩
  refine wa_nil ?_
  refine ⟨_, rfl, ?_⟩
  refine wa_nil ?_
  refine ⟨_, _, rfl, ?_⟩
  rw [ab, ab]
  refine wss_cons ?_
  refine ws_while a (fun n ρ' m' => m' = m ∧ ∃ x : Nat, Nat.gcd x n = Nat.gcd t.natAbs b.natAbs ∧ ρ' = [some (AL.int t), some (AL.int b), some (AL.int (x : Nat)), some (AL.int (n : Nat)), none]) b.natAbs ⟨rfl, _, rfl, rfl⟩ fun n ρ' m' hW => ?_
  obtain ⟨rfl, x, hx, rfl⟩ := hW
  refine wt_icmp op_gt rfl ?_
  refine we_name a 3 rfl (.inl rfl) rfl ?_
  refine we_int ?_
  refine ⟨_, _, rfl, rfl, ?_⟩
  refine br (fun h1 => ?_) (fun h1 => ?_)
  · have h1 := of_decide_eq_true h1
    refine wss_cons ?_
    refine ws_par a 2 3 rfl rfl (by decide) rfl rfl rfl (by decide) (by decide) rfl rfl rfl ?_
    refine wa_cons ?_
    refine we_name a 3 rfl (.inl rfl) rfl ?_
    refine wa_cons ?_
    refine we_mod ?_
    refine we_name a 2 rfl (.inl rfl) rfl ?_
    refine we_name a 3 rfl (.inl rfl) rfl ?_
    refine ⟨_, _, rfl, rfl, h1, ?_⟩
    refine wa_nil ?_
    refine ⟨_, _, rfl, ?_⟩
    refine wss_nil ?_
    refine ⟨x % n, Nat.mod_lt _ (by omega), rfl, n, ?_, rfl⟩
    rw [← hx, Nat.gcd_comm x n, Nat.gcd_rec n x, Nat.gcd_comm]
  · have h1 := of_decide_eq_false h1
    have n0 : n = 0 := by omega
    subst n0
    rw [Nat.gcd_zero_right] at hx
    have gx : (x : Int) = gcdI t b := by unfold gcdI; rw [hx]
    rw [gx]
    have done : ∀ sg : Int, sg = (if 0 < b then 1 else -1) → WSs X ((defBody s_fr).drop 3) [some (AL.int t), some (AL.int b), some (AL.int (gcdI t b)), some (AL.int 0), some (AL.int sg)] m' (bodyE Kt) := by
      intro sg hsg
      have hs1 : -(2 ^ 64) < sg ∧ sg < 2 ^ 64 := by rw [hsg]; split <;> decide
      refine wss_cons ?_
      refine ws_ret ?_
      refine we_tup ?_
      refine wa_cons ?_
      refine we_fdiv ?_
      refine b_int a Z rfl ?_
      refine wa_cons ?_
      refine we_mulS ?_
      refine we_name a 4 rfl (.inl rfl) rfl ?_
      refine we_name a 0 rfl (.inl rfl) rfl ?_
      refine ⟨_, _, rfl, rfl, mulL hs1.1 hs1.2, ?_⟩
      refine wa_nil ?_
      refine .inl ⟨_, rfl, ?_⟩
      refine we_name a 2 rfl (.inl rfl) rfl ?_
      refine ⟨_, _, rfl, rfl, dv.1, ?_⟩
      refine wa_cons ?_
      refine we_fdiv ?_
      refine b_int a Z rfl ?_
      refine wa_cons ?_
      refine we_mulS ?_
      refine we_name a 4 rfl (.inl rfl) rfl ?_
      refine we_name a 1 rfl (.inl rfl) rfl ?_
      refine ⟨_, _, rfl, rfl, mulL hs1.1 hs1.2, ?_⟩
      refine wa_nil ?_
      refine .inl ⟨_, rfl, ?_⟩
      refine we_name a 2 rfl (.inl rfl) rfl ?_
      refine ⟨_, _, rfl, rfl, dv.1, ?_⟩
      refine wa_nil ?_
      refine ⟨(by decide : 2 ≤ 1000), ?_⟩
      subst hsg
      exact bodyE.ret q
    refine wss_cons ?_
    refine ws_set a 4 rfl (.inl rfl) ?_
    refine we_ifexp ?_
    refine wt_icmp op_gt rfl ?_
    refine we_name a 1 rfl (.inl rfl) rfl ?_
    refine we_int ?_
    refine ⟨_, _, rfl, rfl, ?_⟩
    refine br (fun h2 => ?_) (fun h2 => ?_)
    · refine we_int ?_
      exact done 1 (by rw [if_pos (of_decide_eq_true h2)])
    · refine we_sub ?_
      refine we_int ?_
      refine we_int ?_
      refine ⟨_, _, rfl, rfl, ?_⟩
      exact done _ (by rw [if_neg (of_decide_eq_false h2)]; rfl)
end
end HB
namespace HB
open PySem PySem.Spec L2 AL
open PyProof.Rows hiding St
/-! ### fractions as Rat -/
def qOf (x : Rat) : Q2 := (x.num, (x.den : Nat))
theorem qOf_norm (x : Rat) : Norm (qOf x) := by
  refine ⟨?_, ?_⟩
  · have := x.den_nz
    show (1 : Int) ≤ (x.den : Nat)
    omega
  · show Nat.gcd x.num.natAbs ((x.den : Nat) : Int).natAbs = 1
    rw [Int.natAbs_natCast]
    exact x.reduced
theorem qOf_inj {x y : Rat} (h : qOf x = qOf y) : x = y := by
  have h1 := congrArg Prod.fst h
  have h2 := congrArg Prod.snd h
  exact Rat.ext h1 (Int.ofNat.inj h2)
theorem ratio_norm (p : Int) (q : Nat) (h : q ≠ 0) : ratioM p (q : Nat) = qOf (Rat.normalize p q h) := by
  rw [Rat.normalize_eq]
  unfold ratioM gcdI qOf
  rw [Int.natAbs_natCast]
  rfl
/-- how large -/
def Bd (k : Nat) (x : Rat) : Prop := x.num.natAbs < 2 ^ k ∧ x.den < 2 ^ k
theorem Bd.mono {k l : Nat} {x : Rat} (h : Bd k x) (hl : k ≤ l) : Bd l x :=
  ⟨Nat.lt_of_lt_of_le h.1 (Nat.pow_le_pow_right (by decide) hl), Nat.lt_of_lt_of_le h.2 (Nat.pow_le_pow_right (by decide) hl)⟩
theorem Bd.smB {k : Nat} {x : Rat} (h : Bd k x) (hk : k ≤ 4000) : smB (qOf x) = true := by
  have h' := h.mono hk
  have := x.den_nz
  unfold HB.smB
  simp only [Bool.and_eq_true, decide_eq_true_eq]
  refine ⟨⟨h'.1, ?_⟩, ?_⟩
  · show ((x.den : Nat) : Int).natAbs < B4
    rw [Int.natAbs_natCast]
    exact h'.2
  · show ((x.den : Nat) : Int) ≠ 0
    omega
theorem Bd.smQ {k : Nat} {x : Rat} (h : Bd k x) (hk : k ≤ 4000) : SmQ (qOf x) := smB_ok (h.smB hk)
theorem div_le_abs (p : Int) (g : Nat) : (p / (g : Int)).natAbs ≤ p.natAbs := by
  have := Int.natAbs_ediv_le_natAbs p g
  omega
theorem bd_normalize {p : Int} {q : Nat} {h : q ≠ 0} {k : Nat} (h1 : p.natAbs < 2 ^ k) (h2 : q < 2 ^ k) : Bd k (Rat.normalize p q h) := by
  rw [Rat.normalize_eq]
  refine ⟨Nat.lt_of_le_of_lt (div_le_abs _ _) h1, Nat.lt_of_le_of_lt (Nat.div_le_self _ _) h2⟩
theorem lt_pow_mul {a b k l : Nat} (h1 : a < 2 ^ k) (h2 : b < 2 ^ l) : a * b < 2 ^ (k + l) := by
  rw [Nat.pow_add]
  exact Nat.mul_lt_mul'' h1 h2
theorem Bd.add {k l : Nat} {x y : Rat} (h : Bd k x) (g : Bd l y) : Bd (k + l + 1) (x + y) := by
  rw [Rat.add_def]
  have a1 := lt_pow_mul h.1 g.2
  have a2 := lt_pow_mul g.1 h.2
  have a3 := lt_pow_mul h.2 g.2
  have e : 2 ^ (k + l + 1) = 2 ^ (k + l) + 2 ^ (k + l) := by rw [Nat.pow_succ]; omega
  rw [Nat.add_comm l k] at a2
  refine bd_normalize ?_ (by omega)
  have b1 : (x.num * (y.den : Int)).natAbs = x.num.natAbs * y.den := by rw [Int.natAbs_mul, Int.natAbs_natCast]
  have b2 : (y.num * (x.den : Int)).natAbs = y.num.natAbs * x.den := by rw [Int.natAbs_mul, Int.natAbs_natCast]
  have b3 := Int.natAbs_add_le (x.num * (y.den : Int)) (y.num * (x.den : Int))
  omega
theorem Bd.sub {k l : Nat} {x y : Rat} (h : Bd k x) (g : Bd l y) : Bd (k + l + 1) (x - y) := by
  rw [Rat.sub_def]
  have a1 := lt_pow_mul h.1 g.2
  have a2 := lt_pow_mul g.1 h.2
  have a3 := lt_pow_mul h.2 g.2
  have e : 2 ^ (k + l + 1) = 2 ^ (k + l) + 2 ^ (k + l) := by rw [Nat.pow_succ]; omega
  rw [Nat.add_comm l k] at a2
  refine bd_normalize ?_ (by omega)
  have b1 : (x.num * (y.den : Int)).natAbs = x.num.natAbs * y.den := by rw [Int.natAbs_mul, Int.natAbs_natCast]
  have b2 : (y.num * (x.den : Int)).natAbs = y.num.natAbs * x.den := by rw [Int.natAbs_mul, Int.natAbs_natCast]
  have b3 := Int.natAbs_sub_le (x.num * (y.den : Int)) (y.num * (x.den : Int))
  omega
theorem Bd.mul {k l : Nat} {x y : Rat} (h : Bd k x) (g : Bd l y) : Bd (k + l) (x * y) := by
  rw [Rat.mul_def]
  refine bd_normalize ?_ (lt_pow_mul h.2 g.2)
  rw [Int.natAbs_mul]
  exact lt_pow_mul h.1 g.1
theorem add_q (x y : Rat) : addM (qOf x) (qOf y) = qOf (x + y) := by
  rw [Rat.add_def]
  exact ratio_norm _ _ _
theorem sub_q (x y : Rat) : subM (qOf x) (qOf y) = qOf (x - y) := by
  rw [Rat.sub_def]
  exact ratio_norm _ _ _
theorem mul_q (x y : Rat) : mulM (qOf x) (qOf y) = qOf (x * y) := by
  rw [Rat.mul_def]
  exact ratio_norm _ _ _
theorem num_pos' {y : Rat} (h : 0 < y) : 0 < y.num := by
  rw [Rat.lt_iff] at h
  simpa using h
theorem div_n {x y : Rat} (h : 0 < y) : ∃ hz, x / y = Rat.normalize (x.num * (y.den : Int)) (x.den * y.num.natAbs) hz := by
  have hp := num_pos' h
  have hz : x.den * y.num.natAbs ≠ 0 := Nat.mul_ne_zero x.den_nz (by omega)
  refine ⟨hz, ?_⟩
  rw [Rat.div_def, Rat.inv_def]
  have e : y.num = ((y.num.natAbs : Nat) : Int) := by omega
  have hn : y.num.natAbs ≠ 0 := by omega
  generalize y.num.natAbs = n at *
  rw [e, Rat.divInt_ofNat, Rat.mkRat_def, dif_neg hn, Rat.mul_def]
  have hx : x = Rat.normalize x.num x.den x.den_nz := (Rat.mk_eq_normalize x.num x.den x.den_nz x.reduced)
  have := Rat.normalize_mul_normalize x.num (y.den : Int) x.den_nz hn
  rw [← hx] at this
  rw [← this, Rat.mul_def]
theorem div_q {x y : Rat} (h : 0 < y) : divM (qOf x) (qOf y) = qOf (x / y) := by
  obtain ⟨hz, e⟩ := div_n (x := x) h
  rw [e]
  have hp := num_pos' h
  have e2 : ((x.den * y.num.natAbs : Nat) : Int) = (x.den : Int) * y.num := by rw [Int.natCast_mul]; congr 1; omega
  have := ratio_norm (x.num * (y.den : Int)) (x.den * y.num.natAbs) hz
  rw [e2] at this
  exact this
theorem Bd.div {k l : Nat} {x y : Rat} (h : Bd k x) (g : Bd l y) (hy : 0 < y) : Bd (k + l) (x / y) := by
  obtain ⟨hz, e⟩ := div_n (x := x) hy
  rw [e]
  refine bd_normalize ?_ (lt_pow_mul h.2 g.1)
  rw [Int.natAbs_mul, Int.natAbs_natCast]
  exact lt_pow_mul h.1 g.2
theorem less_q (x y : Rat) : lessM (qOf x) (qOf y) = decide (x < y) := by
  unfold lessM qOf
  exact decide_eq_decide.mpr (Rat.lt_iff x y).symm
section
variable {k l : Nat} {x y : Rat} (hx : Bd k x) (hy : Bd l y) (hk : k ≤ 4000) (hl : l ≤ 4000)
include hx hy hk hl
theorem opO_q (f : Q2 → Q2 → Q2) : opO f (qOf x) (qOf y) = some (f (qOf x) (qOf y)) := by
  unfold opO guardO
  rw [hx.smB hk, hy.smB hl]
  rfl
theorem addO_q : addO (qOf x) (qOf y) = some (qOf (x + y)) := by rw [← add_q]; exact opO_q hx hy hk hl _
theorem subO_q : subO (qOf x) (qOf y) = some (qOf (x - y)) := by rw [← sub_q]; exact opO_q hx hy hk hl _
theorem mulO_q : mulO (qOf x) (qOf y) = some (qOf (x * y)) := by rw [← mul_q]; exact opO_q hx hy hk hl _
theorem divO_q (h : 0 < y) : divO (qOf x) (qOf y) = some (qOf (x / y)) := by
  rw [← div_q h]
  unfold divO guardO
  rw [if_pos]
  · exact opO_q hx hy hk hl _
  · have := num_pos' h
    refine decide_eq_true ?_
    show y.num ≠ 0
    omega
theorem lessO_q : lessO (qOf x) (qOf y) = some (decide (x < y)) := by
  rw [← less_q]
  unfold lessO guardO
  rw [hx.smB hk, hy.smB hl]
  rfl
end
end HB
namespace HB
open PySem PySem.Spec L2 AL
open PyProof.Rows hiding St
abbrev rv (x : Rat) : AV := qv (qOf x)
theorem frM_pos {t : Int} {b : Nat} (h : b ≠ 0) : frM t (b : Nat) = qOf (Rat.normalize t b h) := by
  rw [← ratio_norm]
  unfold frM ratioM
  rw [if_pos (by omega)]
  simp only [Int.one_mul]
theorem normalize_div {t : Int} {b : Nat} (h : b ≠ 0) : Rat.normalize t b h = (t : Rat) / (b : Rat) := by
  have e := Rat.divInt_eq_div t (b : Int)
  rw [Rat.divInt_ofNat, Rat.mkRat_def, dif_neg h] at e
  rw [e]
  rfl
def C_r2 (f : Rat → Rat → Rat) : CT := fun As m Kt => ∃ x y : Rat, As = [rv x, rv y] ∧ Bd 3000 x ∧ Bd 3000 y ∧ Kt (rv (f x y)) m
def C_rdiv : CT := fun As m Kt => ∃ x y : Rat, As = [rv x, rv y] ∧ Bd 3000 x ∧ Bd 3000 y ∧ 0 < y ∧ Kt (rv (x / y)) m
def C_rlt : CT := fun As m Kt => ∃ x y : Rat, As = [rv x, rv y] ∧ Bd 3000 x ∧ Bd 3000 y ∧ Kt (AL.bool (decide (x < y))) m
theorem den_pos (x : Rat) : 0 < (qOf x).2 := by
  have := x.den_nz
  show (0 : Int) < (x.den : Nat)
  omega
theorem frM_ratio {t b : Int} (h : 0 < b) : frM t b = ratioM t b := by
  unfold frM ratioM
  rw [if_pos h]
  simp only [Int.one_mul]
theorem rden (x y : Rat) : 0 < (qOf x).2 * (qOf y).2 := Int.mul_pos (den_pos x) (den_pos y)
section
variable {P : Program} {w : World} {K : PySem.W.Frag} {mg : Str → Option Value} {base : Heap} (Z : Blt mg)
variable (FR : FnC P w K mg base 1 "_law_fr" C_fr)
abbrev s_law_add : Stmt := topS 49
theorem sc_law_add : FnScope ["_law_one", "_law_second"] ["_law_one", "_law_second"] (defScope s_law_add) := ⟨rfl, rfl, rfl, by decide +kernel, rfl, by decide +kernel, by decide +kernel⟩
include FR in
theorem F_law_add {f : Addr} {fd : FuncData} (F : Fun K "_law_add" "_law_add" s_law_add f fd) (hm : mg "_law_add" = some (.ref f)) (hb : Binds K fd ["_law_one", "_law_second"] []) : FnC P w K mg base 2 "_law_add" (C_r2 fun x y => x + y) := by
  refine fnC F sc_law_add hm hb (fun As m Kt ⟨x, y, h, _⟩ => by rw [h]; rfl) fun X a As m Kt ⟨x, y, e1, hx, hy, q⟩ => ?_
  subst e1
  have h1 := hx.smQ (by decide)
  have h2 := hy.smQ (by decide)
  refine wss_cons ?_
  refine ws_ret ?_
  refine we_call a FR (by decide) rfl ?_
  refine wa_cons ?_
  refine we_add ?_
  refine we_mul ?_
  refine ix0 a 0 rfl (.inl rfl) rfl ?_
  refine ix1 a 1 rfl (.inl rfl) rfl ?_
  refine ⟨_, _, rfl, rfl, sm_mul h1.n h2.d, ?_⟩
  refine we_mul ?_
  refine ix0 a 1 rfl (.inl rfl) rfl ?_
  refine ix1 a 0 rfl (.inl rfl) rfl ?_
  refine ⟨_, _, rfl, rfl, sm_mul h2.n h1.d, ?_⟩
  refine ⟨_, _, rfl, rfl, ?_⟩
  refine wa_cons ?_
  refine we_mul ?_
  refine ix1 a 0 rfl (.inl rfl) rfl ?_
  refine ix1 a 1 rfl (.inl rfl) rfl ?_
  refine ⟨_, _, rfl, rfl, sm_mul h1.d h2.d, ?_⟩
  refine wa_nil ?_
  refine ⟨[], m, rfl, _, _, rfl, sm_okR h1.d h2.d h1.z h2.z, ?_⟩
  rw [frM_ratio (rden x y)]
  refine bodyE.ret ?_
  have e := add_q x y
  unfold addM at e
  rw [e]
  exact q
abbrev s_law_sub : Stmt := topS 50
theorem sc_law_sub : FnScope ["_law_one", "_law_second"] ["_law_one", "_law_second"] (defScope s_law_sub) := ⟨rfl, rfl, rfl, by decide +kernel, rfl, by decide +kernel, by decide +kernel⟩
include FR in
theorem F_law_sub {f : Addr} {fd : FuncData} (F : Fun K "_law_sub" "_law_sub" s_law_sub f fd) (hm : mg "_law_sub" = some (.ref f)) (hb : Binds K fd ["_law_one", "_law_second"] []) : FnC P w K mg base 2 "_law_sub" (C_r2 fun x y => x - y) := by
  refine fnC F sc_law_sub hm hb (fun As m Kt ⟨x, y, h, _⟩ => by rw [h]; rfl) fun X a As m Kt ⟨x, y, e1, hx, hy, q⟩ => ?_
  subst e1
  have h1 := hx.smQ (by decide)
  have h2 := hy.smQ (by decide)
  refine wss_cons ?_
  refine ws_ret ?_
  refine we_call a FR (by decide) rfl ?_
  refine wa_cons ?_
  refine we_sub ?_
  refine we_mul ?_
  refine ix0 a 0 rfl (.inl rfl) rfl ?_
  refine ix1 a 1 rfl (.inl rfl) rfl ?_
  refine ⟨_, _, rfl, rfl, sm_mul h1.n h2.d, ?_⟩
  refine we_mul ?_
  refine ix0 a 1 rfl (.inl rfl) rfl ?_
  refine ix1 a 0 rfl (.inl rfl) rfl ?_
  refine ⟨_, _, rfl, rfl, sm_mul h2.n h1.d, ?_⟩
  refine ⟨_, _, rfl, rfl, ?_⟩
  refine wa_cons ?_
  refine we_mul ?_
  refine ix1 a 0 rfl (.inl rfl) rfl ?_
  refine ix1 a 1 rfl (.inl rfl) rfl ?_
  refine ⟨_, _, rfl, rfl, sm_mul h1.d h2.d, ?_⟩
  refine wa_nil ?_
  refine ⟨[], m, rfl, _, _, rfl, sm_okR h1.d h2.d h1.z h2.z, ?_⟩
  rw [frM_ratio (rden x y)]
  refine bodyE.ret ?_
  have e := sub_q x y
  unfold subM at e
  rw [e]
  exact q
abbrev s_law_mul : Stmt := topS 51
theorem sc_law_mul : FnScope ["_law_one", "_law_second"] ["_law_one", "_law_second"] (defScope s_law_mul) := ⟨rfl, rfl, rfl, by decide +kernel, rfl, by decide +kernel, by decide +kernel⟩
include FR in
theorem F_law_mul {f : Addr} {fd : FuncData} (F : Fun K "_law_mul" "_law_mul" s_law_mul f fd) (hm : mg "_law_mul" = some (.ref f)) (hb : Binds K fd ["_law_one", "_law_second"] []) : FnC P w K mg base 2 "_law_mul" (C_r2 fun x y => x * y) := by
  refine fnC F sc_law_mul hm hb (fun As m Kt ⟨x, y, h, _⟩ => by rw [h]; rfl) fun X a As m Kt ⟨x, y, e1, hx, hy, q⟩ => ?_
  subst e1
  have h1 := hx.smQ (by decide)
  have h2 := hy.smQ (by decide)
  refine wss_cons ?_
  refine ws_ret ?_
  refine we_call a FR (by decide) rfl ?_
  refine wa_cons ?_
  refine we_mul ?_
  refine ix0 a 0 rfl (.inl rfl) rfl ?_
  refine ix0 a 1 rfl (.inl rfl) rfl ?_
  refine ⟨_, _, rfl, rfl, sm_mul h1.n h2.n, ?_⟩
  refine wa_cons ?_
  refine we_mul ?_
  refine ix1 a 0 rfl (.inl rfl) rfl ?_
  refine ix1 a 1 rfl (.inl rfl) rfl ?_
  refine ⟨_, _, rfl, rfl, sm_mul h1.d h2.d, ?_⟩
  refine wa_nil ?_
  refine ⟨[], m, rfl, _, _, rfl, sm_okR h1.d h2.d h1.z h2.z, ?_⟩
  rw [frM_ratio (rden x y)]
  refine bodyE.ret ?_
  have e := mul_q x y
  unfold mulM at e
  rw [e]
  exact q
abbrev s_law_div : Stmt := topS 52
theorem sc_law_div : FnScope ["_law_one", "_law_second"] ["_law_one", "_law_second"] (defScope s_law_div) := ⟨rfl, rfl, rfl, by decide +kernel, rfl, by decide +kernel, by decide +kernel⟩
include FR in
theorem F_law_div {f : Addr} {fd : FuncData} (F : Fun K "_law_div" "_law_div" s_law_div f fd) (hm : mg "_law_div" = some (.ref f)) (hb : Binds K fd ["_law_one", "_law_second"] []) : FnC P w K mg base 2 "_law_div" C_rdiv := by
  refine fnC F sc_law_div hm hb (fun As m Kt ⟨x, y, h, _⟩ => by rw [h]; rfl) fun X a As m Kt ⟨x, y, e1, hx, hy, hp, q⟩ => ?_
  subst e1
  have h1 := hx.smQ (by decide)
  have h2 := hy.smQ (by decide)
  refine wss_cons ?_
  refine ws_ret ?_
  refine we_call a FR (by decide) rfl ?_
  refine wa_cons ?_
  refine we_mul ?_
  refine ix0 a 0 rfl (.inl rfl) rfl ?_
  refine ix1 a 1 rfl (.inl rfl) rfl ?_
  refine ⟨_, _, rfl, rfl, sm_mul h1.n h2.d, ?_⟩
  refine wa_cons ?_
  refine we_mul ?_
  refine ix1 a 0 rfl (.inl rfl) rfl ?_
  refine ix0 a 1 rfl (.inl rfl) rfl ?_
  refine ⟨_, _, rfl, rfl, sm_mul h1.d h2.n, ?_⟩
  refine wa_nil ?_
  have hn : 0 < (qOf y).1 := num_pos' hp
  refine ⟨[], m, rfl, _, _, rfl, sm_okR h1.d h2.n h1.z (by omega), ?_⟩
  rw [frM_ratio (Int.mul_pos (den_pos x) hn)]
  refine bodyE.ret ?_
  have e := div_q (x := x) hp
  unfold divM at e
  rw [e]
  exact q
abbrev s_law_below : Stmt := topS 59
theorem sc_law_below : FnScope ["_law_one", "_law_second"] ["_law_one", "_law_second"] (defScope s_law_below) := ⟨rfl, rfl, rfl, by decide +kernel, rfl, by decide +kernel, by decide +kernel⟩
theorem F_law_below {f : Addr} {fd : FuncData} (F : Fun K "_law_below" "_law_below" s_law_below f fd) (hm : mg "_law_below" = some (.ref f)) (hb : Binds K fd ["_law_one", "_law_second"] []) : FnC P w K mg base 1 "_law_below" C_rlt := by
  refine fnC F sc_law_below hm hb (fun As m Kt ⟨x, y, h, _⟩ => by rw [h]; rfl) fun X a As m Kt ⟨x, y, e1, hx, hy, q⟩ => ?_
  subst e1
  have h1 := hx.smQ (by decide)
  have h2 := hy.smQ (by decide)
  refine wss_cons ?_
  refine ws_ret ?_
  refine we_icmp op_lt rfl ?_
  refine we_mul ?_
  refine ix0 a 0 rfl (.inl rfl) rfl ?_
  refine ix1 a 1 rfl (.inl rfl) rfl ?_
  refine ⟨_, _, rfl, rfl, sm_mul h1.n h2.d, ?_⟩
  refine we_mul ?_
  refine ix0 a 1 rfl (.inl rfl) rfl ?_
  refine ix1 a 0 rfl (.inl rfl) rfl ?_
  refine ⟨_, _, rfl, rfl, sm_mul h2.n h1.d, ?_⟩
  refine ⟨_, _, rfl, rfl, ?_⟩
  refine bodyE.ret ?_
  have e := less_q x y
  unfold lessM at e
  rw [e]
  exact q
end
end HB
namespace HB
open PySem PySem.Spec L2 AL
open PyProof.Rows hiding St
abbrev sumR (l : List Rat) : Rat := l.foldl (fun x y => x + y) 0
theorem bd_zero : Bd 1 (0 : Rat) := ⟨by decide, by decide⟩
theorem bd_foldl {k : Nat} : ∀ (l : List Rat) (acc : Rat) (j : Nat), Bd j acc → (∀ x ∈ l, Bd k x) → Bd (j + (k + 1) * l.length) (l.foldl (fun x y => x + y) acc)
  | [], acc, j, h, _ => by simpa using h
  | x :: l, acc, j, h, hl => by
    have h1 := h.add (hl x List.mem_cons_self)
    have h2 := bd_foldl l (acc + x) _ h1 fun y hy => hl y (List.mem_cons_of_mem _ hy)
    refine h2.mono ?_
    rw [List.length_cons, Nat.mul_succ]
    omega
theorem bd_take {k : Nat} {l : List Rat} (hl : ∀ x ∈ l, Bd k x) (i : Nat) : Bd (1 + (k + 1) * l.length) (sumR (l.take i)) := by
  refine (bd_foldl (l.take i) 0 1 bd_zero fun x hx => hl x (List.mem_of_mem_take hx)).mono ?_
  have : (l.take i).length ≤ l.length := by rw [List.length_take]; omega
  have := Nat.mul_le_mul_left (k + 1) this
  omega
theorem sum_step {l : List Rat} {i : Nat} {x : Rat} (h : l[i]? = some x) : sumR (l.take i) + x = sumR (l.take (i + 1)) := by
  unfold sumR
  rw [List.take_add_one, h, List.foldl_append]
  rfl
theorem rv_get {l : List Rat} {i : Nat} {A : AV} (h : (l.map rv)[i]? = some A) : ∃ x, l[i]? = some x ∧ A = rv x := by
  rw [List.getElem?_map] at h
  obtain ⟨x, hx, rfl⟩ := Option.map_eq_some_iff.mp h
  exact ⟨x, hx, rfl⟩
section
variable {P : Program} {w : World} {K : PySem.W.Frag} {mg : Str → Option Value} {base : Heap} (Z : Blt mg)
def C_lsum : CT := fun As m Kt => ∃ (A : AV) (l : List Rat) (k : Nat), As = [A] ∧ IsSeqA A (l.map rv) ∧ (∀ x ∈ l, Bd k x) ∧ 1 + (k + 1) * l.length ≤ 3000 ∧ k ≤ 3000 ∧ Kt (rv (sumR l)) m
abbrev s_law_sum : Stmt := topS 53
theorem sc_law_sum : FnScope ["_law_some", "_law_found", "_law_one"] ["_law_some"] (defScope s_law_sum) := ⟨rfl, rfl, rfl, by decide +kernel, rfl, by decide +kernel, by decide +kernel⟩
theorem q0_rv : tup [AL.int 0, AL.int 1] = rv 0 := rfl
theorem F_law_sum (G : FnC P w K mg base 2 "_law_add" (C_r2 fun x y => x + y)) {f : Addr} {fd : FuncData} (F : Fun K "_law_sum" "_law_sum" s_law_sum f fd) (hm : mg "_law_sum" = some (.ref f)) (hb : Binds K fd ["_law_some"] []) : FnC P w K mg base 3 "_law_sum" C_lsum := by
  refine fnC F sc_law_sum hm hb (fun As m Kt ⟨A, l, k, h, _⟩ => by rw [h]; rfl) fun X a As m Kt ⟨A, l, k, e1, hs, hl, h3, hk, q⟩ => ?_
  subst e1
  refine wss_cons ?_
  refine ws_set a 1 rfl (.inl rfl) ?_
  refine we_tup ?_
  refine wa_cons ?_
  refine we_int ?_
  refine wa_cons ?_
  refine we_int ?_
  refine wa_nil ?_
  refine ⟨(by decide : 2 ≤ 1000), ?_⟩
  refine wss_cons ?_
  refine ws_for a (fun i ρ' m' => m' = m ∧ ∃ y, ρ' = [some A, some (rv (sumR (l.take i))), y]) ?_
  refine wi_seq ⟨A, hs, fun Kt k => we_name a 0 rfl (.inl rfl) rfl k⟩ ?_
  refine ⟨⟨rfl, none, rfl⟩, fun i B ρ' m' hB hW => ?_, fun ρ' m' hW => ?_⟩
  · obtain ⟨rfl, y, rfl⟩ := hW
    obtain ⟨x, hx, rfl⟩ := rv_get hB
    refine wg_name a 2 rfl (.inl rfl) ?_
    refine wss_cons ?_
    refine ws_set a 1 rfl (.inl rfl) ?_
    refine we_call a G (by decide) rfl ?_
    refine wa_cons ?_
    refine we_name a 1 rfl (.inl rfl) rfl ?_
    refine wa_cons ?_
    refine we_name a 2 rfl (.inl rfl) rfl ?_
    refine wa_nil ?_
    refine ⟨[], _, rfl, _, _, rfl, (bd_take hl i).mono h3, (hl x (List.mem_of_getElem? hx)).mono hk, ?_⟩
    refine wss_nil ?_
    refine ⟨rfl, some (rv x), ?_⟩
    rw [← sum_step hx]
    rfl
  · obtain ⟨rfl, y, rfl⟩ := hW
    rw [List.length_map, List.take_length]
    refine wss_cons ?_
    refine ws_ret ?_
    refine we_name a 1 rfl (.inl rfl) rfl ?_
    exact bodyE.ret q
/-! ### a small fraction, drawn -/
def C_small : CT := fun As m Kt => ∃ (b : Addr) (c s n : Int) (most : Nat), As = [val (.ref b), AL.int (most : Nat)] ∧ m = boxC b c s n ∧ 1 ≤ most ∧ most ≤ 100 ∧ ∀ x c' s' n', Bd 10 x → Kt (rv x) (boxC b c' s' n')
abbrev s_law_small : Stmt := topS 54
theorem sc_law_small : FnScope ["_law_box_here", "_law_most", "_law_top"] ["_law_box_here", "_law_most"] (defScope s_law_small) := ⟨rfl, rfl, rfl, by decide +kernel, rfl, by decide +kernel, by decide +kernel⟩
theorem small_fr {t : Int} {b : Nat} (h0 : b ≠ 0) (h1 : t.natAbs < 2 ^ 10) (h2 : b < 2 ^ 10) : ∃ x, frM t (b : Nat) = qOf x ∧ Bd 10 x := ⟨_, frM_pos h0, bd_normalize h1 h2⟩
theorem F_law_small (FT : FnC P w K mg base 1 "_law_take" C_take) (FP : FnC P w K mg base 2 "_law_pick" C_pick) (FR : FnC P w K mg base 1 "_law_fr" C_fr) {f : Addr} {fd : FuncData} (F : Fun K "_law_small" "_law_small" s_law_small f fd) (hm : mg "_law_small" = some (.ref f)) (hb : Binds K fd ["_law_box_here", "_law_most"] []) : FnC P w K mg base 3 "_law_small" C_small := by
  refine fnC F sc_law_small hm hb (fun As m Kt ⟨b, c, s, n, most, h, _⟩ => by rw [h]; rfl) fun X a As m Kt ⟨b, c, s, n, most, e1, em, m0, m1, q⟩ => ?_
  subst e1 em
  refine wss_cons ?_
  refine ws_set a 2 rfl (.inl rfl) ?_
  refine we_sub ?_
  refine we_call a FT (by decide) rfl ?_
  refine wa_cons ?_
  refine we_name a 0 rfl (.inl rfl) rfl ?_
  refine wa_cons ?_
  refine we_add ?_
  refine we_mulS ?_
  refine we_int ?_
  refine we_name a 1 rfl (.inl rfl) rfl ?_
  refine ⟨_, _, rfl, rfl, mulL (by decide) (by decide), ?_⟩
  refine we_int ?_
  refine ⟨_, _, rfl, rfl, ?_⟩
  refine wa_nil ?_
  refine ⟨_, [], (List.append_nil _).symm, b, c, s, n, _, rfl, rfl, by omega, by omega, fun r c' s' n' r0 r1 => ?_⟩
  refine we_name a 1 rfl (.inl rfl) rfl ?_
  refine ⟨_, _, rfl, rfl, ?_⟩
  refine wss_cons ?_
  refine ws_ret ?_
  refine we_call a FR (by decide) rfl ?_
  refine wa_cons ?_
  refine we_name a 2 rfl (.inl rfl) rfl ?_
  refine wa_cons ?_
  refine we_call a FP (by decide) rfl ?_
  refine wa_cons ?_
  refine we_name a 0 rfl (.inl rfl) rfl ?_
  refine wa_cons ?_
  refine WN.we (wn_list ?_)
  refine wa_cons ?_
  refine we_int ?_
  refine wa_cons ?_
  refine we_int ?_
  refine wa_cons ?_
  refine we_int ?_
  refine wa_cons ?_
  refine we_int ?_
  refine wa_cons ?_
  refine we_int ?_
  refine wa_nil ?_
  refine ⟨(by decide : 5 ≤ 1000), ?_⟩
  refine wa_nil ?_
  refine ⟨boxC b c' s' n' ++ [], [], (List.append_nil _).symm, b, c', s', n', _, _, rfl, List.append_nil _, fun _ => isSq_lst, (by show 0 < 5; decide), (by show 5 < 1000; decide), fun B c2 s2 n2 hB => ?_⟩
  obtain ⟨d, rfl, d0, d1⟩ : ∃ d : Nat, B = AL.int (d : Nat) ∧ d ≠ 0 ∧ d < 2 ^ 10 := by
    simp only [List.mem_cons, List.not_mem_nil, or_false] at hB
    rcases hB with rfl | rfl | rfl | rfl | rfl
    · exact ⟨1, rfl, by decide, by decide⟩
    · exact ⟨1, rfl, by decide, by decide⟩
    · exact ⟨1, rfl, by decide, by decide⟩
    · exact ⟨2, rfl, by decide, by decide⟩
    · exact ⟨3, rfl, by decide, by decide⟩
  refine wa_nil ?_
  refine ⟨[], _, rfl, _, _, rfl, ⟨by omega, ?_⟩, ?_⟩
  · rw [Int.natAbs_natCast]
    exact Nat.lt_of_lt_of_le d1 (Nat.pow_le_pow_right (by decide) (by decide))
  obtain ⟨x, ex, hx⟩ := small_fr (t := r - (most : Nat)) d0 (by omega) d1
  rw [ex]
  exact bodyE.ret (q x _ _ _ hx)
end
end HB
namespace HB
open PySem PySem.Spec L2 AL
open PyProof.Rows hiding St
/-! ### the weights by their recursion, over Rat -/
def W (k : Nat → Rat) (t : Rat) (h : Nat) : Nat → Nat → Rat
  | 0, i => if i = h then 1 else 0
  | s + 1, i => W k t h s i * ((t - k i) / (k (i + s + 1) - k i)) + W k t h s (i + 1) * ((k (i + s + 2) - t) / (k (i + s + 2) - k (i + 1)))
theorem W_support {k : Nat → Rat} {t : Rat} {h : Nat} : ∀ (s i : Nat), W k t h s i ≠ 0 → i ≤ h ∧ h ≤ i + s
  | 0, i, e => by
    unfold W at e
    split at e
    · omega
    · exact absurd rfl e
  | s + 1, i, e => by
    unfold W at e
    by_cases h1 : W k t h s i = 0
    · by_cases h2 : W k t h s (i + 1) = 0
      · rw [h1, h2] at e
        exact absurd (by grind) e
      · have := W_support s (i + 1) h2
        omega
    · have := W_support s i h1
      omega
/-- what the knots and the time are like -/
structure Kn (k : Nat → Rat) (n : Nat) (t : Rat) (h : Nat) : Prop where
  mono : ∀ i j, i ≤ j → j < n → k i ≤ k j
  hn : h + 1 < n
  lt : k h < k (h + 1)
  lo : k h ≤ t
  hi : t ≤ k (h + 1)
section
variable {k : Nat → Rat} {n : Nat} {t : Rat} {h : Nat} (Q : Kn k n t h)
include Q
theorem gap_pos {i j : Nat} (h1 : i ≤ h) (h2 : h + 1 ≤ j) (h3 : j < n) : 0 < k j - k i := by
  have a := Q.mono i h h1 (by have := Q.hn; omega)
  have b := Q.mono (h + 1) j h2 h3
  have c := Q.lt
  grind
theorem left_nn {i : Nat} (h1 : i ≤ h) : 0 ≤ t - k i := by
  have a := Q.mono i h h1 (by have := Q.hn; omega)
  have c := Q.lo
  grind
theorem right_nn {j : Nat} (h2 : h + 1 ≤ j) (h3 : j < n) : 0 ≤ k j - t := by
  have a := Q.mono (h + 1) j h2 h3
  have c := Q.hi
  grind
omit Q in
theorem div_nn {a b : Rat} (h1 : 0 ≤ a) (h2 : 0 < b) : 0 ≤ a / b := by
  rw [Rat.div_def]
  exact Rat.mul_nonneg h1 (Rat.le_of_lt (Rat.inv_pos.mpr h2))
omit Q in
theorem div_p {a b : Rat} (h1 : 0 < a) (h2 : 0 < b) : 0 < a / b := by
  rw [Rat.div_def]
  exact Rat.mul_pos h1 (Rat.inv_pos.mpr h2)
omit Q in
theorem add_nn {a b : Rat} (h1 : 0 ≤ a) (h2 : 0 ≤ b) : 0 ≤ a + b := by grind
theorem W_nn : ∀ (s i : Nat), i + s + 1 < n → 0 ≤ W k t h s i
  | 0, i, _ => by
    unfold W
    split <;> decide
  | s + 1, i, hi => by
    unfold W
    refine add_nn ?_ ?_
    · by_cases e : W k t h s i = 0
      · rw [e]; grind
      · obtain ⟨e1, e2⟩ := W_support s i e
        exact Rat.mul_nonneg (W_nn s i (by omega)) (div_nn (left_nn Q e1) (gap_pos Q e1 (by omega) (by omega)))
    · by_cases e : W k t h s (i + 1) = 0
      · rw [e]; grind
      · obtain ⟨e1, e2⟩ := W_support s (i + 1) e
        exact Rat.mul_nonneg (W_nn s (i + 1) (by omega)) (div_nn (right_nn Q (by omega) (by omega)) (gap_pos Q e1 (by omega) (by omega)))
/-- inside of its reach a weight is above 0 -/
theorem W_pos (hs : t < k (h + 1)) : ∀ (s i : Nat), i + s + 1 < n → i ≤ h → h ≤ i + s → (k i < t ∨ h = i + s) → 0 < W k t h s i
  | 0, i, _, h1, h2, _ => by
    have : i = h := by omega
    unfold W
    rw [if_pos this]
    decide
  | s + 1, i, hi, h1, h2, h3 => by
    unfold W
    have sec : 0 ≤ W k t h s (i + 1) * ((k (i + s + 2) - t) / (k (i + s + 2) - k (i + 1))) := by
      by_cases e : W k t h s (i + 1) = 0
      · rw [e]; grind
      · obtain ⟨e1, e2⟩ := W_support s (i + 1) e
        exact Rat.mul_nonneg (W_nn Q s (i + 1) (by omega)) (div_nn (right_nn Q (by omega) (by omega)) (gap_pos Q e1 (by omega) (by omega)))
    have fst : 0 ≤ W k t h s i * ((t - k i) / (k (i + s + 1) - k i)) := by
      by_cases e : W k t h s i = 0
      · rw [e]; grind
      · obtain ⟨e1, e2⟩ := W_support s i e
        exact Rat.mul_nonneg (W_nn Q s i (by omega)) (div_nn (left_nn Q e1) (gap_pos Q e1 (by omega) (by omega)))
    by_cases e : h ≤ i + s
    · have kt : k i < t := by rcases h3 with h3 | h3; exact h3; omega
      have p1 := W_pos hs s i (by omega) h1 e (.inl kt)
      have p2 : 0 < (t - k i) / (k (i + s + 1) - k i) := div_p (by grind) (gap_pos Q h1 (by omega) (by omega))
      have p3 := Rat.mul_pos p1 p2
      grind
    · have eh : h = i + s + 1 := by omega
      have p1 := W_pos hs s (i + 1) (by omega) (by omega) (by omega) (.inr (by omega))
      have e2 : i + s + 2 = h + 1 := by omega
      have p2 : 0 < (k (i + s + 2) - t) / (k (i + s + 2) - k (i + 1)) := div_p (by rw [e2]; grind) (gap_pos Q (by omega) (by omega) (by omega))
      have p3 := Rat.mul_pos p1 p2
      grind
/-- all weights together are 1 -/
theorem W_zero_out {s i : Nat} (h1 : ¬ (i ≤ h ∧ h ≤ i + s)) : W k t h s i = 0 := by
  by_cases e : W k t h s i = 0
  · exact e
  · exact absurd (W_support s i e) h1
end
end HB
namespace HB
open PySem PySem.Spec L2 AL
open PyProof.Rows hiding St
/-! ### fractions over one number below -/
def fx (N : Nat) (z : Int) : Rat := (z : Rat) / (N : Rat)
theorem normalize_div' {t : Int} {b : Nat} (h : b ≠ 0) : Rat.normalize t b h = (t : Rat) / (b : Rat) := by
  have e := Rat.divInt_eq_div t (b : Int)
  rw [Rat.divInt_ofNat, Rat.mkRat_def, dif_neg h] at e
  rw [e]
  rfl
theorem fx_norm {N : Nat} (h : N ≠ 0) (z : Int) : fx N z = Rat.normalize z N h := (normalize_div' h).symm
theorem fx_bd {N : Nat} {z : Int} {k : Nat} (h : N ≠ 0) (h1 : z.natAbs < 2 ^ k) (h2 : N < 2 ^ k) : Bd k (fx N z) := by
  rw [fx_norm h]
  exact bd_normalize h1 h2
theorem natCast_pos {N : Nat} (h : N ≠ 0) : (0 : Rat) < (N : Rat) := by
  have : 0 < N := by omega
  exact_mod_cast this
theorem fx_add (N : Nat) (a b : Int) : fx N a + fx N b = fx N (a + b) := by
  unfold fx
  rw [Rat.intCast_add]
  grind
theorem fx_sub (N : Nat) (a b : Int) : fx N a - fx N b = fx N (a - b) := by
  unfold fx
  rw [Rat.intCast_sub]
  grind
theorem fx_lt {N : Nat} (h : N ≠ 0) {a b : Int} : fx N a < fx N b ↔ a < b := by
  have p := natCast_pos h
  unfold fx
  rw [Rat.div_def, Rat.div_def]
  have ip : (0 : Rat) < (N : Rat)⁻¹ := Rat.inv_pos.mpr p
  constructor
  · intro q
    have : (a : Rat) < (b : Rat) := by
      by_cases c : (a : Rat) < (b : Rat)
      · exact c
      · have c' : (b : Rat) ≤ (a : Rat) := by grind
        have := Rat.mul_le_mul_of_nonneg_right c' (Rat.le_of_lt ip)
        grind
    exact_mod_cast this
  · intro q
    have : (a : Rat) < (b : Rat) := by exact_mod_cast q
    exact Rat.mul_lt_mul_of_pos_right this ip
theorem fx_le {N : Nat} (h : N ≠ 0) {a b : Int} : fx N a ≤ fx N b ↔ a ≤ b := by
  have := fx_lt (N := N) h (a := b) (b := a)
  constructor
  · intro q
    have : ¬ (b < a) := fun c => by
      have := this.mpr c
      grind
    omega
  · intro q
    have : ¬ (fx N b < fx N a) := fun c => by
      have := this.mp c
      omega
    grind
theorem fx_div {N : Nat} (h : N ≠ 0) {a : Int} {c : Nat} (hc : c ≠ 0) : fx N a / fx N (c : Nat) = fx c a := by
  have p := natCast_pos h
  have p2 := natCast_pos hc
  unfold fx
  rw [Rat.intCast_natCast]
  grind
theorem fx_quot {N : Nat} (h : N ≠ 0) {a b c d : Int} {k : Nat} (hd : d < c) (h1 : (a - b).natAbs < 2 ^ k) (h2 : (c - d).natAbs < 2 ^ k) : Bd k ((fx N a - fx N b) / (fx N c - fx N d)) := by
  rw [fx_sub, fx_sub]
  obtain ⟨e, he⟩ : ∃ e : Nat, c - d = (e : Nat) := ⟨(c - d).toNat, by omega⟩
  rw [he, fx_div h (by omega)]
  rw [he, Int.natAbs_natCast] at h2
  exact fx_bd (by omega) h1 h2
theorem fx_mul {N m : Nat} (hm : m ≠ 0) (z : Int) : fx (N * m) (z * (m : Nat)) = fx N z := by
  have p2 := natCast_pos hm
  unfold fx
  rw [Rat.natCast_mul, Rat.intCast_mul, Rat.intCast_natCast]
  grind
end HB
namespace HB
open PySem PySem.Spec L2 AL
open PyProof.Rows hiding St
theorem mapM_range {α : Type} {f : Nat → Option α} {g : Nat → α} : ∀ {n : Nat}, (∀ i, i < n → f i = some (g i)) → (List.range n).mapM f = some ((List.range n).map g)
  | 0, _ => rfl
  | n + 1, h => by
    rw [List.range_succ, List.mapM_append, mapM_range fun i hi => h i (by omega)]
    have := h n (by omega)
    simp [this]
theorem range_map_get {α : Type} {g : Nat → α} {n i : Nat} (h : i < n) : ((List.range n).map g)[i]? = some (g i) := by
  rw [List.getElem?_map, List.getElem?_range h]
  rfl
theorem bd0 : Bd 1 (0 : Rat) := ⟨by decide, by decide⟩
def bw (b : Nat) : Nat → Nat
  | 0 => 1
  | s + 1 => 2 * (bw b s + b) + 1
theorem bw_pos (b : Nat) : ∀ s, 1 ≤ bw b s
  | 0 => Nat.le_refl _
  | s + 1 => by
    show 1 ≤ 2 * (bw b s + b) + 1
    omega
/-- knots, a time: their sizes -/
structure Kb (b : Nat) (k : Nat → Rat) (n : Nat) (t : Rat) : Prop where
  bk : ∀ i, i < n → Bd 30 (k i)
  bt : Bd 30 t
  q1 : ∀ i j, i < n → j < n → k j < k i → Bd b ((t - k j) / (k i - k j))
  q2 : ∀ i j, i < n → j < n → k j < k i → Bd b ((k i - t) / (k i - k j))
section
variable {k : Nat → Rat} {n : Nat} {t : Rat} {h : Nat} (Q : Kn k n t h) {b : Nat} (B : Kb b k n t) {kn : List Q2} (hkn : ∀ i, i < n → kn[i]? = some (qOf (k i)))
theorem qOf_zero : qOf 0 = Q0 := rfl
theorem qOf_one : qOf 1 = Q1 := rfl
theorem qOf_eq0 {x : Rat} (h : qOf x = Q0) : x = 0 := qOf_inj (h.trans qOf_zero.symm)
theorem shareO_q {w x y : Rat} {j b : Nat} (b2 : b ≤ 2000) (hw : Bd j w) (hj : j ≤ 4000) (ha : Bd 61 x) (hb : Bd 61 y) (h : w ≠ 0 → 0 < y ∧ Bd b (x / y)) : shareO (qOf w) (qOf x) (qOf y) = some (qOf (w * (x / y))) := by
  unfold shareO
  by_cases e : w = 0
  · subst e
    rw [if_pos qOf_zero]
    have : (0 : Rat) * (x / y) = 0 := by grind
    rw [this, qOf_zero]
  · obtain ⟨hb0, hq⟩ := h e
    rw [if_neg (fun z => e (qOf_eq0 z)), divO_q ha hb (by decide) (by decide) hb0]
    exact mulO_q hw hq hj (by omega)
include Q B
theorem W_bd : ∀ (s i : Nat), i + s + 1 < n → Bd (bw b s) (W k t h s i)
  | 0, i, _ => by
    unfold W
    split <;> exact ⟨by show _ < 2 ^ 1; decide, by show _ < 2 ^ 1; decide⟩
  | s + 1, i, hi => by
    have b1 : Bd (bw b s + b) (W k t h s i * ((t - k i) / (k (i + s + 1) - k i))) := by
      by_cases e : W k t h s i = 0
      · rw [e, Rat.zero_mul]
        exact bd0.mono (by have := bw_pos b s; omega)
      · obtain ⟨e1, e2⟩ := W_support s i e
        have := gap_pos Q e1 (j := i + s + 1) (by omega) (by omega)
        exact (W_bd s i (by omega)).mul (B.q1 _ _ (by omega) (by omega) (by grind))
    have b2 : Bd (bw b s + b) (W k t h s (i + 1) * ((k (i + s + 2) - t) / (k (i + s + 2) - k (i + 1)))) := by
      by_cases e : W k t h s (i + 1) = 0
      · rw [e, Rat.zero_mul]
        exact bd0.mono (by have := bw_pos b s; omega)
      · obtain ⟨e1, e2⟩ := W_support s (i + 1) e
        have := gap_pos Q e1 (j := i + s + 2) (by omega) (by omega)
        exact (W_bd s (i + 1) (by omega)).mul (B.q2 _ _ (by omega) (by omega) (by grind))
    unfold W
    refine (b1.add b2).mono ?_
    show _ ≤ 2 * (bw b s + b) + 1
    omega
include hkn in
theorem weight_q (b2 : b ≤ 2000) {s i : Nat} {row : List Q2} (hs : bw b s ≤ 2000) (hi : i + s + 2 < n) (r0 : row[i]? = some (qOf (W k t h s i))) (r1 : row[i + 1]? = some (qOf (W k t h s (i + 1)))) : weightO row kn i (s + 1) (qOf t) = some (qOf (W k t h (s + 1) i)) := by
  have e0 := hkn i (by omega)
  have e1 := hkn (i + 1) (by omega)
  have e2 : kn[i + (s + 1)]? = _ := hkn (i + s + 1) (by omega)
  have e3 : kn[i + (s + 1) + 1]? = _ := hkn (i + s + 2) (by omega)
  have k0 := B.bk i (by omega)
  have k1 := B.bk (i + 1) (by omega)
  have k2 := B.bk (i + s + 1) (by omega)
  have k3 := B.bk (i + s + 2) (by omega)
  have bt := B.bt
  have w0 := W_bd Q B s i (by omega)
  have w1 := W_bd Q B s (i + 1) (by omega)
  have f1 := shareO_q b2 w0 (by omega) (bt.sub k0) (k2.sub k0) fun e => by
    obtain ⟨a1, a2⟩ := W_support s i e
    have g := gap_pos Q a1 (j := i + s + 1) (by omega) (by omega)
    exact ⟨g, B.q1 _ _ (by omega) (by omega) (by grind)⟩
  have f2 := shareO_q b2 w1 (by omega) (k3.sub bt) (k3.sub k1) fun e => by
    obtain ⟨a1, a2⟩ := W_support s (i + 1) e
    have g := gap_pos Q a1 (j := i + s + 2) (by omega) (by omega)
    exact ⟨g, B.q2 _ _ (by omega) (by omega) (by grind)⟩
  have b1 : Bd (bw b s + b) (W k t h s i * ((t - k i) / (k (i + s + 1) - k i))) := by
    by_cases e : W k t h s i = 0
    · rw [e, Rat.zero_mul]
      exact bd0.mono (by have := bw_pos b s; omega)
    · obtain ⟨a1, a2⟩ := W_support s i e
      have g := gap_pos Q a1 (j := i + s + 1) (by omega) (by omega)
      exact w0.mul (B.q1 _ _ (by omega) (by omega) (by grind))
  have b2 : Bd (bw b s + b) (W k t h s (i + 1) * ((k (i + s + 2) - t) / (k (i + s + 2) - k (i + 1)))) := by
    by_cases e : W k t h s (i + 1) = 0
    · rw [e, Rat.zero_mul]
      exact bd0.mono (by have := bw_pos b s; omega)
    · obtain ⟨a1, a2⟩ := W_support s (i + 1) e
      have g := gap_pos Q a1 (j := i + s + 2) (by omega) (by omega)
      exact w1.mul (B.q2 _ _ (by omega) (by omega) (by grind))
  have f3 := addO_q b1 b2 (by omega) (by omega)
  unfold weightO
  rw [r0, e0, e2, r1, e3, e1]
  simp only [Option.bind_some, subO_q bt k0 (by decide) (by decide), subO_q k2 k0 (by decide) (by decide), subO_q k3 bt (by decide) (by decide), subO_q k3 k1 (by decide) (by decide), f1, f2]
  rw [f3]
  rfl
include hkn in
theorem row_q (b2 : b ≤ 2000) {s : Nat} (hs : bw b s ≤ 2000) (hi : s + 1 < n) : rowO kn (qOf t) ((List.range (n - 1 - s)).map fun i => qOf (W k t h s i)) s = some ((List.range (n - 1 - (s + 1))).map fun i => qOf (W k t h (s + 1) i)) := by
  unfold rowO
  rw [List.length_map, List.length_range]
  have e : n - 1 - s - 1 = n - 1 - (s + 1) := by omega
  rw [e]
  exact mapM_range fun i hi => weight_q Q B hkn b2 hs (by omega) (range_map_get (by omega)) (range_map_get (by omega))
include hkn in
theorem rows_q (b2 : b ≤ 2000) : ∀ (d : Nat), d < n → (∀ s, s < d → bw b s ≤ 2000) → (List.range d).foldlM (rowO kn (qOf t)) ((List.range (n - 1)).map fun i => qOf (W k t h 0 i)) = some ((List.range (n - 1 - d)).map fun i => qOf (W k t h d i))
  | 0, _, _ => rfl
  | d + 1, hd, hb => by
    rw [List.range_succ, List.foldlM_append, rows_q b2 d (by omega) fun s hs => hb s (by omega)]
    have := row_q Q B hkn b2 (s := d) (hb d (by omega)) (by omega)
    simp [this]
end
theorem ahead_q {k : Nat → Rat} {n : Nat} {t : Rat} {kn : List Q2} (hkn : ∀ i, i < n → kn[i]? = some (qOf (k i))) (bk : ∀ i, i < n → Bd 30 (k i)) (bt : Bd 30 t) {last : Nat} (hl : last + 1 < n) :
    ∀ (fuel at_ : Nat), last ≤ at_ + fuel → at_ ≤ last → k at_ ≤ t → (∃ h, aheadO kn (qOf t) (last : Nat) fuel at_ = some h ∧ at_ ≤ h ∧ h ≤ last ∧ k h ≤ t ∧ (h = last ∨ t < k (h + 1)))
  | 0, at_, h1, h2, h3 => by
    refine ⟨at_, ?_, Nat.le_refl _, h2, h3, .inl (by omega)⟩
    unfold aheadO
    rw [if_neg (by omega)]
  | fuel + 1, at_, h1, h2, h3 => by
    unfold aheadO
    by_cases e : at_ < last
    · rw [if_pos (by omega), hkn (at_ + 1) (by omega), Option.bind_some, lessO_q bt (bk _ (by omega)) (by decide) (by decide), Option.bind_some]
      by_cases g : t < k (at_ + 1)
      · rw [if_pos (decide_eq_true g)]
        exact ⟨at_, rfl, Nat.le_refl _, h2, h3, .inr g⟩
      · rw [if_neg (by rw [decide_eq_false g]; decide)]
        obtain ⟨h, e1, e2, e3, e4, e5⟩ := ahead_q hkn bk bt hl fuel (at_ + 1) (by omega) (by omega) (by grind)
        exact ⟨h, e1, by omega, e3, e4, e5⟩
    · rw [if_neg (by omega)]
      exact ⟨at_, rfl, Nat.le_refl _, h2, h3, .inl (by omega)⟩
end HB
namespace HB
open PySem PySem.Spec L2 AL
open PyProof.Rows hiding St
/-- marks in sixths, as a law draws them -/
structure Mks (d : Nat) (zs : List Int) : Prop where
  l2 : 2 ≤ zs.length
  l9 : zs.length ≤ 9
  d4 : d ≤ 4
  so : ∀ i j, i ≤ j → j < zs.length → zs.getD i 0 ≤ zs.getD j 0
  fi : zs.getD 0 0 < zs.getD 1 0
  la : zs.getD (zs.length - 2) 0 < zs.getD (zs.length - 1) 0
  mu : ∀ i, 1 ≤ i → i + d + 1 < zs.length → zs.getD i 0 < zs.getD (i + d) 0
  bd : ∀ i, i < zs.length → (zs.getD i 0).natAbs ≤ 150
def z6 (z : Int) : Q2 := qOf (fx 6 z)
def qz (zs : List Int) : List Q2 := zs.map z6
theorem z6_zero : z6 0 = Q0 := by decide +kernel
theorem qz_getD (zs : List Int) (i : Nat) : (qz zs).getD i Q0 = z6 (zs.getD i 0) := by
  unfold qz
  rw [← z6_zero, List.getD_eq_getElem?_getD, List.getD_eq_getElem?_getD, List.getElem?_map]
  cases zs[i]? <;> rfl
theorem qz_get {zs : List Int} {i : Nat} (h : i < zs.length) : (qz zs)[i]? = some (z6 (zs.getD i 0)) := by
  unfold qz
  rw [List.getElem?_map, List.getElem?_eq_getElem h, List.getD_eq_getElem?_getD, List.getElem?_eq_getElem h]
  rfl
theorem qz_len (zs : List Int) : (qz zs).length = zs.length := List.length_map _
theorem qz_head (zs : List Int) : (qz zs).headD Q0 = z6 (zs.getD 0 0) := by
  rw [← qz_getD]
  cases qz zs <;> rfl
theorem qz_last (zs : List Int) (h : 1 ≤ zs.length) : (qz zs).getLastD Q0 = z6 (zs.getD (zs.length - 1) 0) := by
  have := qz_get (zs := zs) (i := zs.length - 1) (by omega)
  rw [List.getLastD_eq_getLast?, List.getLast?_eq_getElem?, qz_len, this]
  rfl
/-- the knot with a number -/
def kz (d : Nat) (zs : List Int) (i : Nat) : Int := zs.getD (min (i - d) (zs.length - 1)) 0
theorem knots_q {d : Nat} {zs : List Int} (h : 1 ≤ zs.length) {i : Nat} (hi : i < zs.length + 2 * d) : (knotsM d (qz zs))[i]? = some (z6 (kz d zs i)) := by
  unfold knotsM kz
  by_cases h1 : i < d
  · rw [List.append_assoc, List.getElem?_append_left (by rw [List.length_replicate]; exact h1), List.getElem?_replicate, if_pos h1, qz_head]
    congr 3
    omega
  · by_cases h2 : i < d + zs.length
    · rw [List.getElem?_append_left (by rw [List.length_append, List.length_replicate, qz_len]; exact h2), List.getElem?_append_right (by rw [List.length_replicate]; omega), List.length_replicate, qz_get (by omega)]
      congr 3
      omega
    · rw [List.getElem?_append_right (by rw [List.length_append, List.length_replicate, qz_len]; omega), List.getElem?_replicate, List.length_append, List.length_replicate, qz_len, if_pos (by omega), qz_last zs h]
      congr 3
      omega
theorem knots_len {d : Nat} {zs : List Int} : (knotsM d (qz zs)).length = zs.length + 2 * d := by
  unfold knotsM
  rw [List.length_append, List.length_append, List.length_replicate, List.length_replicate, qz_len]
  omega
theorem b6 {z : Int} (h : z.natAbs ≤ 150) : Bd 12 (fx 6 z) := by
  have p12 : (2 : Nat) ^ 12 = 4096 := by decide
  have p11 : (2 : Nat) ^ 11 = 2048 := by decide
  exact fx_bd (by decide) (by omega) (by omega)
theorem less6 {a b : Int} (ha : a.natAbs ≤ 150) (hb : b.natAbs ≤ 150) : lessO (z6 a) (z6 b) = some (decide (a < b)) := by
  unfold z6
  rw [lessO_q (b6 ha) (b6 hb) (by decide) (by decide)]
  congr 1
  exact decide_eq_decide.mpr (fx_lt (by decide))
theorem z6_inj {a b : Int} (h : z6 a = z6 b) : a = b := by
  have e := qOf_inj h
  have h1 : ¬ a < b := fun c => by
    have := (fx_lt (N := 6) (by decide)).mpr c
    rw [e] at this
    grind
  have h2 : ¬ b < a := fun c => by
    have := (fx_lt (N := 6) (by decide)).mpr c
    rw [e] at this
    grind
  omega
theorem zip_alln {α : Type} {p : α × α → Bool} {l r : List α} (h : ∀ (i : Nat) (x y : α), l[i]? = some x → r[i]? = some y → p (x, y) = true) : (l.zip r).all p = true := by
  refine List.all_eq_true.mpr fun z hz => ?_
  obtain ⟨i, hi⟩ := List.mem_iff_getElem?.mp hz
  obtain ⟨h1, h2⟩ := List.getElem?_zip_eq_some.mp hi
  exact h i _ _ h1 h2
theorem inner_get {zs : List Int} (h : 2 ≤ zs.length) {i : Nat} {q : Q2} (hq : (innerM (qz zs))[i]? = some q) : i + 2 < zs.length ∧ q = z6 (zs.getD (i + 1) 0) := by
  unfold innerM cutQ at hq
  rw [qz_len, List.getElem?_take] at hq
  split at hq
  · rename_i hi
    rw [List.getElem?_drop, qz_get (by omega)] at hq
    have e := (Option.some.inj hq).symm
    refine ⟨by omega, ?_⟩
    rw [e]
    congr 2
    omega
  · cases hq
theorem inner_len {zs : List Int} (h : 2 ≤ zs.length) : (innerM (qz zs)).length = zs.length - 2 := by
  unfold innerM cutQ
  rw [qz_len, List.length_take, List.length_drop, qz_len]
  omega
theorem tail_get {l : List Q2} {a i : Nat} {q : Q2} (h : (tailQ l a)[i]? = some q) : l[a + i]? = some q := by
  unfold tailQ at h
  rw [List.getElem?_take] at h
  split at h
  · rw [List.getElem?_drop] at h
    have := (List.getElem?_eq_some_iff.mp h).1
    have e : min a l.length + i = a + i := by omega
    rw [e] at h
    exact h
  · cases h
theorem marks_ok {d : Nat} {zs : List Int} (M : Mks d zs) : marksO d (qz zs) = true := by
  have l2 := M.l2
  have l9 := M.l9
  unfold marksO
  simp only [Bool.and_eq_true, decide_eq_true_eq, beq_iff_eq]
  refine ⟨⟨⟨⟨⟨?_, ?_⟩, ?_⟩, ?_⟩, ?_⟩, ?_⟩
  · rw [qz_len]; omega
  · rw [qz_len]; omega
  · rw [qz_getD, qz_getD, less6 (M.bd _ (by omega)) (M.bd _ (by omega)), decide_eq_true M.fi]
  · rw [qz_len, qz_getD, qz_getD, less6 (M.bd _ (by omega)) (M.bd _ (by omega)), decide_eq_true M.la]
  · refine zip_alln fun i x y hx hy => ?_
    obtain ⟨h1, rfl⟩ := inner_get l2 hx
    obtain ⟨h2, rfl⟩ := inner_get l2 (tail_get hy)
    have := M.so (i + 1) (1 + i + 1) (by omega) (by omega)
    show (lessO _ _ == some false) = true
    rw [less6 (M.bd _ (by omega)) (M.bd _ (by omega)), decide_eq_false (by omega)]
    rfl
  · refine zip_alln fun i x y hx hy => ?_
    obtain ⟨h1, rfl⟩ := inner_get l2 hx
    obtain ⟨h2, rfl⟩ := inner_get l2 (tail_get hy)
    have := M.mu (i + 1) (by omega) (by omega)
    refine decide_eq_true fun e => ?_
    have e2 := z6_inj e
    have e3 : d + i + 1 = i + 1 + d := by omega
    rw [e3] at e2
    omega
theorem kz_mono {d : Nat} {zs : List Int} (M : Mks d zs) {i j : Nat} (h : i ≤ j) : kz d zs i ≤ kz d zs j := by
  have := M.l2
  unfold kz
  exact M.so _ _ (by omega) (by omega)
theorem kz_bd {d : Nat} {zs : List Int} (M : Mks d zs) (i : Nat) : (kz d zs i).natAbs ≤ 150 := by
  have := M.l2
  exact M.bd _ (by omega)
/-! ### the weights at a time -/
section
variable {d : Nat} {zs : List Int} (M : Mks d zs) {m : Nat} {y : Int} (m0 : m ≠ 0) (m9 : m ≤ 6) (y0 : zs.getD 0 0 * m ≤ y) (y1 : y ≤ zs.getD (zs.length - 1) 0 * m)
def kf (d : Nat) (zs : List Int) (m : Nat) (i : Nat) : Rat := fx (6 * m) (kz d zs i * (m : Nat))
theorem kf_eq (m0 : m ≠ 0) (i : Nat) : kf d zs m i = fx 6 (kz d zs i) := fx_mul m0 _
theorem abs_mul_le {a : Int} {m : Nat} (h : a.natAbs ≤ 150) (h2 : m ≤ 6) : (a * (m : Nat)).natAbs ≤ 900 := by
  rw [Int.natAbs_mul, Int.natAbs_natCast]
  exact Nat.le_trans (Nat.mul_le_mul h h2) (by decide)
include M m0 m9 y0 y1
theorem y_bd : y.natAbs ≤ 900 := by
  have l2 := M.l2
  have h1 := abs_mul_le (M.bd 0 (by omega)) m9
  have h2 := abs_mul_le (M.bd (zs.length - 1) (by omega)) m9
  omega
theorem kb_ok : Kb 11 (kf d zs m) (zs.length + 2 * d) (fx (6 * m) y) := by
  have yb := y_bd M m0 m9 y0 y1
  have hN : 6 * m ≠ 0 := by omega
  have p12 : (2 : Nat) ^ 12 = 4096 := by decide
  have p11 : (2 : Nat) ^ 11 = 2048 := by decide
  have kb : ∀ i, (kz d zs i * (m : Nat)).natAbs ≤ 900 := fun i => abs_mul_le (kz_bd M i) m9
  refine ⟨fun i _ => (fx_bd (k := 11) hN (by have := kb i; omega) (by omega)).mono (by decide), (fx_bd (k := 11) hN (by omega) (by omega)).mono (by decide), fun i j _ _ hl => ?_, fun i j _ _ hl => ?_⟩
  · have h1 := kb i
    have h2 := kb j
    exact fx_quot hN ((fx_lt hN).mp hl) (by omega) (by omega)
  · have h1 := kb i
    have h2 := kb j
    exact fx_quot hN ((fx_lt hN).mp hl) (by omega) (by omega)
theorem weights_main : ∃ h, weightsO d (qz zs) (qOf (fx (6 * m) y)) = some ((List.range (zs.length + 2 * d - 1 - d)).map fun i => qOf (W (kf d zs m) (fx (6 * m) y) h d i)) ∧ Kn (kf d zs m) (zs.length + 2 * d) (fx (6 * m) y) h ∧ d ≤ h ∧ h + 2 ≤ d + zs.length ∧
    (fx (6 * m) y < kf d zs m (h + 1) ∨ h + 2 = d + zs.length) := by
  have l2 := M.l2
  have l9 := M.l9
  have d4 := M.d4
  have hN : 6 * m ≠ 0 := by omega
  have B := kb_ok M m0 m9 y0 y1
  have kq : ∀ i, i < zs.length + 2 * d → (knotsM d (qz zs))[i]? = some (qOf (kf d zs m i)) := fun i hi => by
    rw [knots_q (by omega) hi, kf_eq m0]
    rfl
  have le0 : kf d zs m d ≤ fx (6 * m) y := (fx_le hN).mpr (by
    have e : kz d zs d = zs.getD 0 0 := by unfold kz; congr 1; omega
    rw [e]; exact y0)
  obtain ⟨h, e1, e2, e3, e4, e5⟩ := ahead_q (last := d + zs.length - 2) kq B.bk B.bt (by omega) (zs.length + 2 * d) d (by omega) (by omega) le0
  have elast : kz d zs (d + zs.length - 2 + 1) = zs.getD (zs.length - 1) 0 := by unfold kz; congr 1; omega
  have K : Kn (kf d zs m) (zs.length + 2 * d) (fx (6 * m) y) h := by
    refine ⟨fun i j hij _ => (fx_le hN).mpr (Int.mul_le_mul_of_nonneg_right (kz_mono M hij) (by omega)), by omega, ?_, e4, ?_⟩
    · rcases e5 with e5 | e5
      · subst e5
        refine (fx_lt hN).mpr (Int.mul_lt_mul_of_pos_right ?_ (by omega))
        rw [elast]
        have e : kz d zs (d + zs.length - 2) = zs.getD (zs.length - 2) 0 := by unfold kz; congr 1; omega
        rw [e]
        exact M.la
      · grind
    · rcases e5 with e5 | e5
      · subst e5
        refine (fx_le hN).mpr ?_
        rw [elast]
        exact y1
      · grind
  refine ⟨h, ?_, K, e2, by omega, ?_⟩
  · unfold weightsO guardO
    have g : (!(qz zs).isEmpty && decide ((qz zs).length + 2 * d ≤ 900) && withinO (qz zs) (qOf (fx (6 * m) y))) = true := by
      rw [Bool.and_eq_true, Bool.and_eq_true]
      refine ⟨⟨?_, ?_⟩, ?_⟩
      · cases eq : qz zs with
        | nil =>
          have := qz_len zs
          rw [eq] at this
          simp at this
          omega
        | cons a b => rfl
      · rw [qz_len]
        exact decide_eq_true (by omega)
      · unfold withinO
        rw [qz_head, qz_last zs (by omega), Bool.and_eq_true]
        have h0 : z6 (zs.getD 0 0) = qOf (fx (6 * m) (zs.getD 0 0 * (m : Nat))) := by rw [fx_mul m0]; rfl
        have h1 : z6 (zs.getD (zs.length - 1) 0) = qOf (fx (6 * m) (zs.getD (zs.length - 1) 0 * (m : Nat))) := by rw [fx_mul m0]; rfl
        have p12 : (2 : Nat) ^ 12 = 4096 := by decide
        have c1 := abs_mul_le (M.bd 0 (by omega)) m9
        have c2 := abs_mul_le (M.bd (zs.length - 1) (by omega)) m9
        rw [h0, h1, lessO_q B.bt (fx_bd (k := 12) hN (by omega) (by omega)) (by decide) (by decide), lessO_q (fx_bd (k := 12) hN (by omega) (by omega)) B.bt (by decide) (by decide)]
        rw [decide_eq_false (fun c => by have := (fx_lt hN).mp c; omega), decide_eq_false (fun c => by have := (fx_lt hN).mp c; omega)]
        exact ⟨rfl, rfl⟩
    rw [if_pos g, knots_len]
    have el : ((zs.length + 2 * d : Nat) : Int) - d - 2 = ((d + zs.length - 2 : Nat) : Int) := by omega
    rw [el, e1, Option.bind_some]
    have r0 : ((List.range (zs.length + 2 * d - 1)).map fun (i : Nat) => if i = h then Q1 else Q0) = (List.range (zs.length + 2 * d - 1)).map fun i => qOf (W (kf d zs m) (fx (6 * m) y) h 0 i) := by
      refine List.map_congr_left fun i _ => ?_
      unfold W
      split
      · rfl
      · rfl
    rw [r0]
    exact rows_q K B kq (by decide) d (by omega) fun s hs => by
      have : s = 0 ∨ s = 1 ∨ s = 2 ∨ s = 3 := by omega
      rcases this with rfl | rfl | rfl | rfl <;> decide
  · rcases e5 with e5 | e5
    · exact .inr (by omega)
    · exact .inl e5
end
end HB
namespace HB
open PySem PySem.Spec L2 AL
open PyProof.Rows hiding St
theorem total_go {k : Nat} : ∀ (l : List Rat) (acc : Rat) (j : Nat), Bd j acc → (∀ x ∈ l, Bd k x) → k ≤ 4000 → j + (k + 1) * l.length ≤ 4000 → (l.map qOf).foldlM addO (qOf acc) = some (qOf (l.foldl (fun x y => x + y) acc))
  | [], acc, j, _, _, _, _ => rfl
  | x :: l, acc, j, h, hl, hk, hj => by
    rw [List.length_cons, Nat.mul_succ] at hj
    have hx := hl x List.mem_cons_self
    rw [List.map_cons, List.foldlM_cons, addO_q h hx (by omega) hk]
    show (l.map qOf).foldlM addO (qOf (acc + x)) = _
    exact total_go l (acc + x) _ (h.add hx) (fun y hy => hl y (List.mem_cons_of_mem _ hy)) hk (by omega)
abbrev sumQ (l : List Rat) : Rat := l.foldl (fun x y => x + y) 0
theorem bd_sumQ {k : Nat} : ∀ (l : List Rat) (acc : Rat) (j : Nat), Bd j acc → (∀ x ∈ l, Bd k x) → Bd (j + (k + 1) * l.length) (l.foldl (fun x y => x + y) acc)
  | [], acc, j, h, _ => by simpa using h
  | x :: l, acc, j, h, hl => by
    have h1 := h.add (hl x List.mem_cons_self)
    have h2 := bd_sumQ l (acc + x) _ h1 fun y hy => hl y (List.mem_cons_of_mem _ hy)
    refine h2.mono ?_
    rw [List.length_cons, Nat.mul_succ]
    omega
theorem totalO_q {k : Nat} {l : List Rat} (hl : ∀ x ∈ l, Bd k x) (hk : k ≤ 4000) (h : 1 + (k + 1) * l.length ≤ 4000) : totalO (l.map qOf) = some (qOf (sumQ l)) := by
  unfold totalO
  have := total_go l 0 1 bd0 hl hk h
  exact this
section
variable {d : Nat} {zs : List Int} (M : Mks d zs)
def segK (d : Nat) (zs : List Int) (i : Nat) : List Rat := (List.range d).map fun j => fx 6 (kz d zs (i + 1 + j))
theorem seg_cut (h : 1 ≤ zs.length) {i : Nat} (hi : i + 1 + d ≤ zs.length + 2 * d) : cutQ (knotsM d (qz zs)) (i + 1) (i + 1 + d) = (segK d zs i).map qOf := by
  refine List.ext_getElem? fun j => ?_
  unfold cutQ segK
  rw [knots_len, List.getElem?_take]
  split
  · rename_i hj
    have e1 : min (i + 1) (zs.length + 2 * d) + j = i + 1 + j := by omega
    rw [List.getElem?_drop, e1, knots_q h (by omega), List.map_map, List.getElem?_map, List.getElem?_range (by omega)]
    rfl
  · rename_i hj
    rw [List.map_map, List.getElem?_map, List.getElem?_eq_none (by rw [List.length_range]; omega)]
    rfl
include M in
theorem seg_bd (i : Nat) : ∀ x ∈ segK d zs i, Bd 12 x := fun x hx => by
  obtain ⟨j, _, rfl⟩ := List.mem_map.mp hx
  exact b6 (kz_bd M _)
theorem seg_len (i : Nat) : (segK d zs i).length = d := by
  unfold segK
  rw [List.length_map, List.length_range]
theorem q_nat : ∀ d : Nat, d ≤ 4 → qOf (fx 1 (d : Nat)) = ((d : Int), 1)
  | 0, _ => by decide +kernel
  | 1, _ => by decide +kernel
  | 2, _ => by decide +kernel
  | 3, _ => by decide +kernel
  | 4, _ => by decide +kernel
  | n + 5, h => by omega
theorem fx1_pos {d : Nat} (h : 0 < d) : 0 < fx 1 (d : Nat) := by
  have := (fx_lt (N := 1) (by decide) (a := 0) (b := (d : Nat))).mpr (by omega)
  have e : fx 1 0 = 0 := by decide +kernel
  rw [e] at this
  exact this
theorem fx1_bd {d : Nat} (h : d ≤ 4) : Bd 12 (fx 1 (d : Nat)) := by
  have p12 : (2 : Nat) ^ 12 = 4096 := by decide
  exact fx_bd (by decide) (by omega) (by omega)
/-- where a handle is at home -/
def homeR (d : Nat) (zs : List Int) (i : Nat) : Rat := if d = 0 then sumQ (zs.map (fx 6)) / fx 1 (2 : Nat) else sumQ (segK d zs i) / fx 1 (d : Nat)
include M in
theorem len0 (h : d = 0) : zs.length = 2 := by
  have l2 := M.l2
  subst h
  by_cases e : zs.length = 2
  · exact e
  · have := M.mu 1 (by omega) (by omega)
    rw [Nat.add_zero] at this
    omega
include M in
theorem homes_q {hs : List Q2} (hl : hs.length + 1 = d + zs.length) : homesO d (qz zs) hs = some ((List.range hs.length).map fun i => qOf (homeR d zs i)) := by
  have l2 := M.l2
  have d4 := M.d4
  unfold homesO
  by_cases h0 : d = 0
  · have e2 := len0 M h0
    obtain ⟨a, b, rfl⟩ : ∃ a b, zs = [a, b] := by
      match zs, e2 with
      | [a, b], _ => exact ⟨a, b, rfl⟩
    have ba : Bd 12 (fx 6 a) := b6 (M.bd 0 (by show 0 < 2; decide))
    have bb : Bd 12 (fx 6 b) := b6 (M.bd 1 (by show 1 < 2; decide))
    have hl1 : hs.length = 1 := by
      have : ([a, b] : List Int).length = 2 := rfl
      omega
    rw [if_pos h0, hl1]
    have e1 : (qz [a, b]).headD Q0 = qOf (fx 6 a) := rfl
    have e3 : (qz [a, b]).getLastD Q0 = qOf (fx 6 b) := rfl
    have e4 : ((2, 1) : Q2) = qOf (fx 1 (2 : Nat)) := (q_nat 2 (by decide)).symm
    rw [e1, e3, addO_q ba bb (by decide) (by decide), Option.bind_some, e4, divO_q (ba.add bb) (fx1_bd (by decide)) (by decide) (by decide) (fx1_pos (by decide)), Option.bind_some]
    have e5 : homeR d [a, b] 0 = (fx 6 a + fx 6 b) / fx 1 (2 : Nat) := by
      unfold homeR
      rw [if_pos h0]
      show (0 + fx 6 a + fx 6 b) / _ = _
      rw [Rat.zero_add]
    show some [_] = some [qOf (homeR d [a, b] 0)]
    rw [e5]
  · rw [if_neg h0]
    refine mapM_range fun i hi => ?_
    unfold homeO
    rw [seg_cut (by omega) (by omega), totalO_q (seg_bd M i) (by decide) (by rw [seg_len]; omega), Option.bind_some, ← q_nat d d4, divO_q (bd_sumQ _ 0 1 bd0 (seg_bd M i)) (fx1_bd d4) (by rw [seg_len]; omega) (by decide) (fx1_pos (by omega))]
    unfold homeR
    rw [if_neg h0]
/-! ### the reach -/
theorem reach_out {k : Nat → Rat} {n : Nat} {t : Rat} {h : Nat} (Q : Kn k n t h) {s i : Nat} (hi : i + s + 1 < n) (o : t < k i ∨ k (i + s + 1) < t) : W k t h s i = 0 := by
  refine W_zero_out Q fun ⟨h1, h2⟩ => ?_
  have a := Q.mono i h h1 (by have := Q.hn; omega)
  have b := Q.mono (h + 1) (i + s + 1) (by omega) hi
  have c := Q.lo
  have e := Q.hi
  rcases o with o | o <;> grind
theorem reach_in {k : Nat → Rat} {n : Nat} {t : Rat} {h : Nat} (Q : Kn k n t h) {s i : Nat} (hi : i + s + 1 < n) (hx : t < k (h + 1) ∨ ∀ j, j < n → k j ≤ k (h + 1)) (o1 : k i < t) (o2 : t < k (i + s + 1)) : 0 < W k t h s i := by
  have c := Q.lo
  have e := Q.hi
  have h1 : i ≤ h := by
    by_cases g : i ≤ h
    · exact g
    · have := Q.mono (h + 1) i (by omega) (by omega)
      grind
  have h2 : h ≤ i + s := by
    by_cases g : h ≤ i + s
    · exact g
    · have := Q.mono (i + s + 1) h (by omega) (by have := Q.hn; omega)
      grind
  refine W_pos Q ?_ s i hi h1 h2 (.inl o1)
  rcases hx with hx | hx
  · exact hx
  · have := hx (i + s + 1) hi
    grind
end
end HB
namespace HB
open PySem PySem.Spec L2 AL
open PyProof.Rows hiding St
theorem qz_ne {zs : List Int} (h : 1 ≤ zs.length) : qz zs ≠ [] := fun e => by
  have := qz_len zs
  rw [e] at this
  simp at this
  omega
theorem z6_norm (z : Int) : Norm (z6 z) := qOf_norm _
theorem qz_norm (zs : List Int) : ∀ q ∈ qz zs, Norm q := fun q h => by
  obtain ⟨z, _, rfl⟩ := List.mem_map.mp h
  exact z6_norm z
theorem qO_norm (l : List Rat) : ∀ q ∈ l.map qOf, Norm q := fun q h => by
  obtain ⟨z, _, rfl⟩ := List.mem_map.mp h
  exact qOf_norm z
section
variable {P : Program} {w : World} {K : PySem.W.Frag} {mg : Str → Option Value} {base : Heap} (Z : Blt mg) {C : Addr}
/-! ### knots, by the law -/
def C_lknots : CT := fun As m Kt => ∃ (d : Nat) (zs : List Int), As = [AL.int d, lst ((qz zs).map qv)] ∧ 1 ≤ zs.length ∧ zs.length + 2 * d ≤ 100 ∧ Kt (lst ((knotsM d (qz zs)).map qv)) m
abbrev s_law_knots : Stmt := topS 58
theorem sc_law_knots : FnScope ["_law_degree", "_law_marks_here"] ["_law_degree", "_law_marks_here"] (defScope s_law_knots) := ⟨rfl, rfl, rfl, by decide +kernel, rfl, by decide +kernel, by decide +kernel⟩
include Z in
theorem F_law_knots {f : Addr} {fd : FuncData} (F : Fun K "_law_knots" "_law_knots" s_law_knots f fd) (hm : mg "_law_knots" = some (.ref f)) (hb : Binds K fd ["_law_degree", "_law_marks_here"] []) : FnC P w K mg base 1 "_law_knots" C_lknots := by
  refine fnC F sc_law_knots hm hb (fun As m Kt ⟨d, zs, h, _⟩ => by rw [h]; rfl) fun X a As m Kt ⟨d, zs, e1, h1, h2, q⟩ => ?_
  subst e1
  have hne := qz_ne h1
  have ql := qz_len zs
  refine wss_cons ?_
  refine ws_ret ?_
  refine we_lcat ?_
  refine we_lcat ?_
  refine we_lrep ?_
  refine WN.we (wn_list ?_)
  refine wa_cons ?_
  refine we_ix ?_
  refine we_name a 1 rfl (.inl rfl) rfl ?_
  refine we_int ?_
  refine ⟨_, _, _, isSq_lst, rfl, at_first hne, ?_⟩
  refine wa_nil ?_
  refine ⟨(by decide : 1 ≤ 1000), ?_⟩
  refine we_name a 0 rfl (.inl rfl) rfl ?_
  refine ⟨_, d, isLs_lst, rfl, by omega, by omega, by show 1 * (d : Int).toNat ≤ 1000; omega, ?_⟩
  refine b_listOf a Z rfl ?_
  refine wa_cons ?_
  refine we_name a 1 rfl (.inl rfl) rfl ?_
  refine wa_nil ?_
  refine ⟨_, _, rfl, isSq_lst, ?_⟩
  refine ⟨_, _, isLs_lst, isLs_lst, by rw [rep_flat, List.length_replicate, List.length_map]; omega, ?_⟩
  refine we_lrep ?_
  refine WN.we (wn_list ?_)
  refine wa_cons ?_
  refine we_ix ?_
  refine we_name a 1 rfl (.inl rfl) rfl ?_
  refine we_neg ?_
  refine we_int ?_
  refine ⟨_, rfl, ?_⟩
  refine ⟨_, _, _, isSq_lst, rfl, at_last hne, ?_⟩
  refine wa_nil ?_
  refine ⟨(by decide : 1 ≤ 1000), ?_⟩
  refine we_name a 0 rfl (.inl rfl) rfl ?_
  refine ⟨_, d, isLs_lst, rfl, by omega, by omega, by show 1 * (d : Int).toNat ≤ 1000; omega, ?_⟩
  refine ⟨_, _, isLs_lst, isLs_lst, by rw [rep_flat, rep_flat, List.length_append, List.length_replicate, List.length_replicate, List.length_map]; omega, ?_⟩
  have e : List.replicate (d : Int).toNat (qv ((qz zs).headD Q0)) ++ (qz zs).map qv ++ List.replicate (d : Int).toNat (qv ((qz zs).getLastD Q0)) = (knotsM d (qz zs)).map qv := by
    unfold knotsM
    rw [List.map_append, List.map_append, List.map_replicate, List.map_replicate, Int.toNat_natCast]
  rw [rep_flat, rep_flat, e]
  exact bodyE.ret q
/-! ### the package's bend of what was told -/
abbrev toldV (d : Nat) (zs : List Int) (hs : List Rat) : AV := tup [AL.int d, lst ((qz zs).map qv), lst ((hs.map qOf).map qv)]
def C_made (C : Addr) : CT := fun As m Kt => ∃ (d : Nat) (zs : List Int) (hs : List Rat), As = [toldV d zs hs] ∧ Mks d zs ∧ hs.length + 1 = d + zs.length ∧ Kt (bendV C d (qz zs) (hs.map qOf)) m
abbrev s_law_made : Stmt := topS 57
theorem sc_law_made : FnScope ["_law_told"] ["_law_told"] (defScope s_law_made) := ⟨rfl, rfl, rfl, by decide +kernel, rfl, by decide +kernel, by decide +kernel⟩
theorem F_law_made (CB : ClsC P w K mg base 5 "Bend" C R_bend) {f : Addr} {fd : FuncData} (F : Fun K "_law_made" "_law_made" s_law_made f fd) (hm : mg "_law_made" = some (.ref f)) (hb : Binds K fd ["_law_told"] []) : FnC P w K mg base 7 "_law_made" (C_made C) := by
  refine fnC F sc_law_made hm hb (fun As m Kt ⟨d, zs, hs, h, _⟩ => by rw [h]; rfl) fun X a As m Kt ⟨d, zs, hs, e1, M, hl, q⟩ => ?_
  subst e1
  have l9 := M.l9
  have d4 := M.d4
  refine wss_cons ?_
  refine ws_ret ?_
  refine we_make a CB (by decide) rfl ?_
  refine wa_cons ?_
  refine we_ix ?_
  refine we_name a 0 rfl (.inl rfl) rfl ?_
  refine we_int ?_
  refine ⟨_, _, _, isSq_tup, rfl, rfl, ?_⟩
  refine wa_cons ?_
  refine we_ix ?_
  refine we_name a 0 rfl (.inl rfl) rfl ?_
  refine we_int ?_
  refine ⟨_, _, _, isSq_tup, rfl, rfl, ?_⟩
  refine wa_cons ?_
  refine we_ix ?_
  refine we_name a 0 rfl (.inl rfl) rfl ?_
  refine we_int ?_
  refine ⟨_, _, _, isSq_tup, rfl, rfl, ?_⟩
  refine wa_nil ?_
  refine ⟨d, _, _, qz zs, _, _, hs.map qOf, rfl, .inl rfl, norm_vs (qz_norm zs), marks_ok M, .inl rfl, norm_vs (qO_norm hs), by rw [List.length_map]; omega, by rw [List.length_map, qz_len]; omega, ?_⟩
  exact bodyE.ret q
/-! ### reach -/
def C_reach : CT := fun As m Kt => ∃ (d : Nat) (A : AV) (Bs : List AV) (zs : List Int) (i : Nat), As = [AL.int d, A, AL.int i] ∧ IsSeqA A Bs ∧ IsVs Bs (qz zs) ∧ 1 ≤ zs.length ∧ zs.length + 2 * d ≤ 900 ∧ i + d + 1 < zs.length + 2 * d ∧ Kt (tup [qv (z6 (kz d zs i)), qv (z6 (kz d zs (i + d + 1)))]) m
end
end HB
namespace HB
open PySem PySem.Spec L2 AL
open PyProof.Rows hiding St
theorem fx_fx {N m : Nat} (hN : N ≠ 0) (hm : m ≠ 0) (a b : Int) : fx N a * fx m b = fx (N * m) (a * b) := by
  have p1 := natCast_pos hN
  have p2 := natCast_pos hm
  unfold fx
  rw [Rat.natCast_mul, Rat.intCast_mul]
  grind
/-- a time of the stretch -/
def TOk (zs : List Int) (m : Nat) (t : Rat) : Prop := ∃ y : Int, t = fx (6 * m) y ∧ zs.getD 0 0 * (m : Nat) ≤ y ∧ y ≤ zs.getD (zs.length - 1) 0 * (m : Nat)
theorem time_ok {d : Nat} {zs : List Int} (M : Mks d zs) {m k i : Nat} (m0 : m ≠ 0) (hk : k < m) (hi : i + 1 < zs.length) (hz : zs.getD i 0 < zs.getD (i + 1) 0) : TOk zs m (fx 6 (zs.getD i 0) + (fx 6 (zs.getD (i + 1) 0) - fx 6 (zs.getD i 0)) * fx m (k : Nat)) := by
  have s1 := M.so 0 i (by omega) (by omega)
  have s2 := M.so (i + 1) (zs.length - 1) (by omega) (by omega)
  generalize zs.getD i 0 = a at *
  generalize zs.getD (i + 1) 0 = b at *
  refine ⟨a * (m : Nat) + (b - a) * (k : Nat), ?_, ?_, ?_⟩
  · rw [fx_sub, fx_fx (by decide) m0, ← fx_mul m0 a, fx_add]
  · have h1 := Int.mul_le_mul_of_nonneg_right s1 (c := (m : Int)) (by omega)
    have h2 : 0 ≤ (b - a) * (k : Int) := Int.mul_nonneg (by omega) (by omega)
    omega
  · have h1 := Int.mul_le_mul_of_nonneg_right s2 (c := (m : Int)) (by omega)
    have h2 : (b - a) * (k : Int) ≤ (b - a) * (m : Int) := Int.mul_le_mul_of_nonneg_left (by omega) (by omega)
    rw [Int.sub_mul] at h2 ⊢
    rw [Int.sub_mul] at h2
    omega
theorem time_last {d : Nat} {zs : List Int} (M : Mks d zs) {m : Nat} (m0 : m ≠ 0) : TOk zs m (fx 6 (zs.getD (zs.length - 1) 0)) := by
  have l2 := M.l2
  have s1 := M.so 0 (zs.length - 1) (by omega) (by omega)
  exact ⟨_, (fx_mul m0 _).symm, Int.mul_le_mul_of_nonneg_right s1 (by omega), Int.le_refl _⟩
section
variable {P : Program} {w : World} {K : PySem.W.Frag} {mg : Str → Option Value} {base : Heap} (Z : Blt mg) {C : Addr}
def C_times : CT := fun As m Kt => ∃ (d : Nat) (zs : List Int) (hs : List Rat) (k : Nat), As = [toldV d zs hs, AL.int k] ∧ m = [] ∧ Mks d zs ∧ k ≠ 0 ∧ k ≤ 10 ∧ ∀ ts : List Rat, ts.length ≤ 100 → (∀ t ∈ ts, TOk zs k t) → Kt (lst (ts.map rv)) []
abbrev s_law_times : Stmt := topS 63
abbrev N_law_times : List Str := ["_law_told", "_law_many", "_law_found", "_law_marks_here", "_law_at", "_law_wide", "_law_k"]
theorem sc_law_times : FnScope N_law_times ["_law_told", "_law_many"] (defScope s_law_times) := ⟨rfl, rfl, rfl, by decide +kernel, rfl, by decide +kernel, by decide +kernel⟩
include Z in
theorem F_law_times (FL : FnC P w K mg base 1 "_law_below" C_rlt) (FS : FnC P w K mg base 2 "_law_sub" (C_r2 fun x y => x - y)) (FA : FnC P w K mg base 2 "_law_add" (C_r2 fun x y => x + y)) (FM : FnC P w K mg base 2 "_law_mul" (C_r2 fun x y => x * y)) (FR : FnC P w K mg base 1 "_law_fr" C_fr) {f : Addr} {fd : FuncData} (F : Fun K "_law_times" "_law_times" s_law_times f fd) (hm : mg "_law_times" = some (.ref f)) (hb : Binds K fd ["_law_told", "_law_many"] []) : FnC P w K mg base 3 "_law_times" C_times := by
  refine fnC F sc_law_times hm hb (fun As m Kt ⟨d, zs, hs, k, h, _⟩ => by rw [h]; rfl) fun X a As m Kt ⟨d, zs, hs, mn, e1, em, M, m0, m9, q⟩ => ?_
  subst e1 em
  have l2 := M.l2
  have l9 := M.l9
  have ql := qz_len zs
  refine wss_cons ?_
  refine ws_par a 2 3 rfl rfl (by decide) rfl rfl rfl (by decide) (by decide) rfl rfl rfl ?_
  refine wa_cons ?_
  refine WN.new (wn_list ?_)
  refine wa_nil ?_
  refine ⟨(by decide : 0 ≤ 1000), fun fo => ?_⟩
  refine wa_cons ?_
  refine we_ix ?_
  refine we_name a 0 rfl (.inl rfl) rfl ?_
  refine we_int ?_
  refine ⟨_, _, _, isSq_tup, rfl, rfl, ?_⟩
  refine wa_nil ?_
  refine ⟨_, _, rfl, ?_⟩
  refine wss_cons ?_
  refine ws_for a (fun i ρ' m' => ∃ (ts : List Rat) (y1 y2 y3 : Option AV), ts.length ≤ i * mn ∧ (∀ t ∈ ts, TOk zs mn t) ∧ m' = [(fo, .l (ts.map rv))] ∧ ρ' = [some (toldV d zs hs), some (AL.int mn), some (val (.ref fo)), some (lst ((qz zs).map qv)), y1, y2, y3]) ?_
  refine wi_range1 a rfl Z.range ?_
  refine we_sub ?_
  refine b_len a Z rfl ?_
  refine wa_cons ?_
  refine we_name a 3 rfl (.inl rfl) rfl ?_
  refine wa_nil ?_
  refine ⟨_, _, rfl, isSq_lst, ?_⟩
  refine we_int ?_
  refine ⟨_, _, rfl, rfl, ?_⟩
  refine ⟨_, rfl, by rw [List.length_map]; omega, ?_⟩
  refine ⟨⟨[], none, none, none, Nat.zero_le _, (fun t h => by cases h), rfl, rfl⟩, fun i B ρ' m' hB hW => ?_, fun ρ' m' hW => ?_⟩
  · obtain ⟨ts, y1, y2, y3, hl, ht, rfl, rfl⟩ := hW
    obtain ⟨hi, rfl⟩ := rangeA_get hB
    rw [List.length_map, ql] at hi
    have hi : i + 1 < zs.length := by omega
    have g0 := qz_get (zs := zs) (i := i) (by omega)
    have g1 := qz_get (zs := zs) (i := i + 1) (by omega)
    have b0 := b6 (M.bd i (by omega))
    have b1 := b6 (M.bd (i + 1) (by omega))
    refine wg_name a 4 rfl (.inl rfl) ?_
    refine wss_cons ?_
    refine ws_if ?_
    refine wt_val ?_
    refine we_call a FL (by decide) rfl ?_
    refine wa_cons ?_
    refine we_ix ?_
    refine we_name a 3 rfl (.inl rfl) rfl ?_
    refine we_name a 4 rfl (.inl rfl) rfl ?_
    refine ⟨_, _, _, isSq_lst, rfl, atN g0 (by omega), ?_⟩
    refine wa_cons ?_
    refine we_ix ?_
    refine we_name a 3 rfl (.inl rfl) rfl ?_
    refine we_add ?_
    refine we_name a 4 rfl (.inl rfl) rfl ?_
    refine we_int ?_
    refine ⟨_, _, rfl, rfl, ?_⟩
    refine ⟨_, _, _, isSq_lst, rfl, atN g1 (by omega), ?_⟩
    refine wa_nil ?_
    refine ⟨[], _, rfl, fx 6 (zs.getD i 0), fx 6 (zs.getD (i + 1) 0), rfl, b0.mono (by decide), b1.mono (by decide), ?_⟩
    refine ⟨_, rfl, ?_⟩
    refine br (fun h1 => ?_) (fun h1 => ?_)
    · have hz : zs.getD i 0 < zs.getD (i + 1) 0 := (fx_lt (by decide)).mp (of_decide_eq_true h1)
      refine wss_cons ?_
      refine ws_set a 5 rfl (.inl rfl) ?_
      refine we_call a FS (by decide) rfl ?_
      refine wa_cons ?_
      refine we_ix ?_
      refine we_name a 3 rfl (.inl rfl) rfl ?_
      refine we_add ?_
      refine we_name a 4 rfl (.inl rfl) rfl ?_
      refine we_int ?_
      refine ⟨_, _, rfl, rfl, ?_⟩
      refine ⟨_, _, _, isSq_lst, rfl, atN g1 (by omega), ?_⟩
      refine wa_cons ?_
      refine we_ix ?_
      refine we_name a 3 rfl (.inl rfl) rfl ?_
      refine we_name a 4 rfl (.inl rfl) rfl ?_
      refine ⟨_, _, _, isSq_lst, rfl, atN g0 (by omega), ?_⟩
      refine wa_nil ?_
      refine ⟨[], _, rfl, fx 6 (zs.getD (i + 1) 0), fx 6 (zs.getD i 0), rfl, b1.mono (by decide), b0.mono (by decide), ?_⟩
      refine wss_cons ?_
      refine ws_for a (fun j ρ' m' => ∃ (us : List Rat) (y3 : Option AV), us.length ≤ i * mn + j ∧ (∀ t ∈ us, TOk zs mn t) ∧ m' = [(fo, .l (us.map rv))] ∧ ρ' = [some (toldV d zs hs), some (AL.int mn), some (val (.ref fo)), some (lst ((qz zs).map qv)), some (AL.int (0 + (i : Int))), some (rv (fx 6 (zs.getD (i + 1) 0) - fx 6 (zs.getD i 0))), y3]) ?_
      refine wi_range1 a rfl Z.range ?_
      refine we_name a 1 rfl (.inl rfl) rfl ?_
      refine ⟨_, rfl, by omega, ?_⟩
      refine ⟨⟨ts, y3, by omega, ht, rfl, rfl⟩, fun j B ρ' m' hB hW => ?_, fun ρ' m' hW => ?_⟩
      · obtain ⟨us, y4, hl4, hu, rfl, rfl⟩ := hW
        obtain ⟨hj, rfl⟩ := rangeA_get hB
        have hj : j < mn := by omega
        have p12 : (2 : Nat) ^ 12 = 4096 := by decide
        have bj : Bd 12 (fx mn (j : Nat)) := fx_bd m0 (by omega) (by omega)
        have bw : Bd 12 (fx 6 (zs.getD (i + 1) 0) - fx 6 (zs.getD i 0)) := by
          have c0 := M.bd i (by omega)
          have c1 := M.bd (i + 1) (by omega)
          rw [fx_sub]
          exact fx_bd (by decide) (by omega) (by omega)
        have im : i * mn ≤ 90 := Nat.le_trans (Nat.mul_le_mul (show i ≤ 9 by omega) m9) (by decide)
        refine wg_name a 6 rfl (.inl rfl) ?_
        refine wss_cons ?_
        refine ws_expr ?_
        refine we_append ?_
        refine we_name a 2 rfl (.inl rfl) rfl ?_
        refine ⟨fo, _, [], [], rfl, rfl, ?_⟩
        refine we_call a FA (by decide) rfl ?_
        refine wa_cons ?_
        refine we_ix ?_
        refine we_name a 3 rfl (.inl rfl) rfl ?_
        refine we_name a 4 rfl (.inl rfl) rfl ?_
        refine ⟨_, _, _, isSq_lst, rfl, atN g0 (by omega), ?_⟩
        refine wa_cons ?_
        refine we_call a FM (by decide) rfl ?_
        refine wa_cons ?_
        refine we_name a 5 rfl (.inl rfl) rfl ?_
        refine wa_cons ?_
        refine we_call a FR (by decide) rfl ?_
        refine wa_cons ?_
        refine we_name a 6 rfl (.inl rfl) rfl ?_
        refine wa_cons ?_
        refine we_name a 1 rfl (.inl rfl) rfl ?_
        refine wa_nil ?_
        refine ⟨[], _, rfl, _, _, rfl, ⟨by omega, ?_⟩, ?_⟩
        · rw [Int.natAbs_natCast]
          exact Nat.lt_of_lt_of_le (show mn < 2 ^ 12 by omega) (Nat.pow_le_pow_right (by decide) (by decide))
        have ef : frM (0 + (j : Int)) (mn : Nat) = qOf (fx mn (j : Nat)) := by
          rw [Int.zero_add, frM_pos m0, fx_norm m0]
        rw [ef]
        refine wa_nil ?_
        refine ⟨[], _, rfl, _, _, rfl, bw.mono (by decide), bj.mono (by decide), ?_⟩
        refine wa_nil ?_
        refine ⟨[], _, rfl, fx 6 (zs.getD i 0), _, rfl, b0.mono (by decide), (bw.mul bj).mono (by decide), ?_⟩
        refine ⟨us.map rv, [], [], rfl, by rw [List.length_map]; omega, ?_⟩
        refine wss_nil ?_
        refine ⟨us ++ [fx 6 (zs.getD i 0) + (fx 6 (zs.getD (i + 1) 0) - fx 6 (zs.getD i 0)) * fx mn (j : Nat)], _, by rw [List.length_append]; show us.length + 1 ≤ _; omega, fun t ht => ?_, by rw [List.map_append]; rfl, rfl⟩
        rcases List.mem_append.mp ht with ht | ht
        · exact hu t ht
        · rw [List.mem_singleton.mp ht]
          exact time_ok M m0 hj hi hz
      · obtain ⟨us, y4, hl4, hu, rfl, rfl⟩ := hW
        rw [rangeA_len] at hl4
        refine wss_nil ?_
        refine wss_nil ?_
        refine ⟨us, _, _, _, ?_, hu, rfl, rfl⟩
        rw [Nat.succ_mul]
        omega
    · refine wss_nil ?_
      refine wss_nil ?_
      refine ⟨ts, _, _, _, ?_, ht, rfl, rfl⟩
      rw [Nat.succ_mul]
      omega
  · obtain ⟨ts, y1, y2, y3, hl, ht, rfl, rfl⟩ := hW
    rw [rangeA_len, List.length_map, ql] at hl
    have hl9 : ts.length ≤ 80 := by
      refine Nat.le_trans hl (Nat.le_trans (Nat.mul_le_mul (show _ ≤ 8 by omega) m9) (by decide))
    refine wss_cons ?_
    refine ws_ret ?_
    refine we_lcat ?_
    refine we_name a 2 rfl (.inl rfl) rfl ?_
    refine WN.we (wn_list ?_)
    refine wa_cons ?_
    refine we_ix ?_
    refine we_name a 3 rfl (.inl rfl) rfl ?_
    refine we_neg ?_
    refine we_int ?_
    refine ⟨_, rfl, ?_⟩
    refine ⟨_, _, _, isSq_lst, rfl, at_last (qz_ne (by omega)), ?_⟩
    refine wa_nil ?_
    refine ⟨(by decide : 1 ≤ 1000), ?_⟩
    refine ⟨ts.map rv, _, isLs_mut (by simp), isLs_lst, by rw [List.length_map]; show ts.length + 1 ≤ 1000; omega, ?_⟩
    rw [qz_last zs (by omega)]
    have cd : Conv (lst (ts.map rv ++ [qv (z6 (zs.getD (zs.length - 1) 0))])) ([] ++ [(fo, Cell.l (ts.map rv))]) (lst (ts.map rv ++ [qv (z6 (zs.getD (zs.length - 1) 0))])) [] := conv_drop
    rw [List.nil_append] at cd
    refine ⟨_, [], _, (List.nil_append _).symm, cd, ?_⟩
    have e : ts.map rv ++ [qv (z6 (zs.getD (zs.length - 1) 0))] = (ts ++ [fx 6 (zs.getD (zs.length - 1) 0)]).map rv := by
      rw [List.map_append]
      rfl
    rw [e]
    refine q _ (by rw [List.length_append]; show ts.length + 1 ≤ 100; omega) fun t h => ?_
    rcases List.mem_append.mp h with h | h
    · exact ht t h
    · rw [List.mem_singleton.mp h]
      exact time_last M m0
end
end HB
namespace HB
open PySem PySem.Spec L2 AL
open PyProof.Rows hiding St
/-! ### marks, drawn one behind the other -/
def lastZ (zs : List Int) : Int := zs.getD (zs.length - 1) 0
structure Grow (d : Nat) (zs : List Int) : Prop where
  l1 : 1 ≤ zs.length
  so : ∀ i j, i ≤ j → j < zs.length → zs.getD i 0 ≤ zs.getD j 0
  fi : 2 ≤ zs.length → zs.getD 0 0 < zs.getD 1 0
  mu : ∀ i, 1 ≤ i → i + d < zs.length → zs.getD i 0 < zs.getD (i + d) 0
  bd : ∀ i, i < zs.length → (zs.getD i 0).natAbs ≤ 6 + 12 * (zs.length - 1)
  d0 : d = 0 → zs.length = 1
theorem snoc_lt {zs : List Int} {z : Int} {i : Nat} (h : i < zs.length) : (zs ++ [z]).getD i 0 = zs.getD i 0 := by
  rw [List.getD_eq_getElem?_getD, List.getD_eq_getElem?_getD, List.getElem?_append_left h]
theorem snoc_eq {zs : List Int} {z : Int} : (zs ++ [z]).getD zs.length 0 = z := by
  rw [List.getD_eq_getElem?_getD, List.getElem?_append_right (Nat.le_refl _), Nat.sub_self]
  rfl
theorem grow_one {d : Nat} {z : Int} (h : z.natAbs ≤ 6) : Grow d [z] where
  l1 := Nat.le_refl _
  so := fun i j h1 h2 => by
    have h2 : j < 1 := h2
    have : i = 0 := by omega
    have : j = 0 := by omega
    subst i j
    exact Int.le_refl _
  fi := fun h => by
    have h : 2 ≤ 1 := h
    omega
  mu := fun i h1 h2 => by
    have h2 : i + d < 1 := h2
    omega
  bd := fun i hi => by
    have hi : i < 1 := hi
    have : i = 0 := by omega
    subst i
    show z.natAbs ≤ _
    omega
  d0 := fun _ => rfl
theorem count_last {d : Nat} {zs : List Int} (G : Grow d zs) (hd : 0 < d) (hl : d ≤ zs.length) (hc : zs.count (lastZ zs) < d) : zs.getD (zs.length - d) 0 < lastZ zs := by
  have l1 := G.l1
  by_cases e : zs.getD (zs.length - d) 0 < lastZ zs
  · exact e
  · have a : ∀ b ∈ zs.drop (zs.length - d), lastZ zs = b := fun b hb => by
      obtain ⟨i, hi⟩ := List.mem_iff_getElem?.mp hb
      rw [List.getElem?_drop] at hi
      obtain ⟨h1, h2⟩ := List.getElem?_eq_some_iff.mp hi
      have e2 : zs.getD (zs.length - d + i) 0 = b := by rw [List.getD_eq_getElem?_getD, hi]; rfl
      have s1 := G.so (zs.length - d) (zs.length - d + i) (by omega) h1
      have s2 := G.so (zs.length - d + i) (zs.length - 1) (by omega) (by omega)
      unfold lastZ at e ⊢
      omega
    have c1 := List.count_eq_length.mpr a
    have c2 := (List.drop_sublist (zs.length - d) zs).count_le (lastZ zs)
    rw [List.length_drop] at c1
    omega
theorem grow_snoc {d : Nat} {zs : List Int} (G : Grow d zs) (hd : 0 < d) {z : Int} (hz : (z = lastZ zs ∧ 2 ≤ zs.length ∧ zs.count (lastZ zs) < d) ∨ (lastZ zs < z ∧ z ≤ lastZ zs + 12)) : Grow d (zs ++ [z]) := by
  have l1 := G.l1
  have ll : (zs ++ [z]).length = zs.length + 1 := by rw [List.length_append]; rfl
  have hge : lastZ zs ≤ z := by rcases hz with hz | hz <;> omega
  refine ⟨by omega, fun i j hij hj => ?_, fun h2 => ?_, fun i h1 h2 => ?_, fun i hi => ?_, fun h => by omega⟩
  · rw [ll] at hj
    by_cases e : j < zs.length
    · rw [snoc_lt e, snoc_lt (by omega)]
      exact G.so i j hij e
    · have : j = zs.length := by omega
      subst this
      rw [snoc_eq]
      by_cases e2 : i < zs.length
      · rw [snoc_lt e2]
        have := G.so i (zs.length - 1) (by omega) (by omega)
        unfold lastZ at hge
        omega
      · have : i = zs.length := by omega
        subst this
        rw [snoc_eq]
        exact Int.le_refl _
  · by_cases e : 2 ≤ zs.length
    · rw [snoc_lt (by omega), snoc_lt (by omega)]
      exact G.fi e
    · have e1 : zs.length = 1 := by omega
      have h1 := snoc_eq (zs := zs) (z := z)
      rw [e1] at h1
      rw [snoc_lt (by omega), h1]
      have : lastZ zs = zs.getD 0 0 := by unfold lastZ; rw [e1]
      rcases hz with hz | hz
      · omega
      · omega
  · rw [ll] at h2
    by_cases e : i + d < zs.length
    · rw [snoc_lt (by omega), snoc_lt e]
      exact G.mu i h1 e
    · have e1 : i + d = zs.length := by omega
      rw [e1, snoc_eq, snoc_lt (by omega)]
      have s := G.so i (zs.length - 1) (by omega) (by omega)
      rcases hz with ⟨hz, h3, h4⟩ | hz
      · have := count_last G hd (by omega) h4
        have e2 : zs.length - d = i := by omega
        rw [e2] at this
        omega
      · unfold lastZ at hz
        omega
  · rw [ll] at hi ⊢
    have bl := G.bd (zs.length - 1) (by omega)
    by_cases e : i < zs.length
    · rw [snoc_lt e]
      have := G.bd i e
      omega
    · have : i = zs.length := by omega
      subst this
      rw [snoc_eq]
      unfold lastZ at hz hge
      rcases hz with hz | hz <;> omega
theorem grow_marks {d : Nat} {zs : List Int} (G : Grow d zs) (d4 : d ≤ 4) (hl : zs.length ≤ 8) {z : Int} (h1 : lastZ zs < z) (h2 : z ≤ lastZ zs + 12) : Mks d (zs ++ [z]) := by
  have l1 := G.l1
  have ll : (zs ++ [z]).length = zs.length + 1 := by rw [List.length_append]; rfl
  have bl := G.bd (zs.length - 1) (by omega)
  refine ⟨by omega, by omega, d4, fun i j hij hj => ?_, ?_, ?_, fun i h3 h4 => ?_, fun i hi => ?_⟩
  · rw [ll] at hj
    by_cases e : j < zs.length
    · rw [snoc_lt e, snoc_lt (by omega)]
      exact G.so i j hij e
    · have : j = zs.length := by omega
      subst this
      rw [snoc_eq]
      by_cases e2 : i < zs.length
      · rw [snoc_lt e2]
        have := G.so i (zs.length - 1) (by omega) (by omega)
        unfold lastZ at h1
        omega
      · have : i = zs.length := by omega
        subst this
        rw [snoc_eq]
        exact Int.le_refl _
  · by_cases e : 2 ≤ zs.length
    · rw [snoc_lt (by omega), snoc_lt (by omega)]
      exact G.fi e
    · have e1 : zs.length = 1 := by omega
      have h3 := snoc_eq (zs := zs) (z := z)
      rw [e1] at h3
      rw [snoc_lt (by omega), h3]
      have : lastZ zs = zs.getD 0 0 := by unfold lastZ; rw [e1]
      omega
  · rw [ll]
    have e1 : zs.length + 1 - 2 = zs.length - 1 := by omega
    have e2 : zs.length + 1 - 1 = zs.length := by omega
    rw [e1, e2, snoc_eq, snoc_lt (by omega)]
    exact h1
  · rw [ll] at h4
    rw [snoc_lt (by omega), snoc_lt (by omega)]
    exact G.mu i h3 (by omega)
  · rw [ll] at hi
    by_cases e : i < zs.length
    · rw [snoc_lt e]
      have := G.bd i e
      omega
    · have : i = zs.length := by omega
      subst this
      rw [snoc_eq]
      unfold lastZ at h1 h2
      omega
end HB
namespace HB
open PySem PySem.Spec L2 AL
open PyProof.Rows hiding St
theorem z6_add {a b : Int} : addM (z6 a) (z6 b) = z6 (a + b) := by
  unfold z6
  rw [add_q, fx_add]
theorem count_z6 (zs : List Int) (z : Int) : ((qz zs).map qd).countP (fun x => PyData.eqv x (qd (z6 z))) = zs.count z := by
  unfold qz
  rw [List.map_map, List.countP_map]
  unfold List.count
  congr 1
  funext x
  show PyData.eqv (qd (z6 x)) (qd (z6 z)) = (x == z)
  rw [eqv_q]
  by_cases e : x = z
  · subst e
    rw [decide_eq_true rfl, beq_self_eq_true]
  · rw [decide_eq_false fun c => e (z6_inj c), beq_eq_false_iff_ne.mpr e]
theorem plain_qd (l : List Q2) : PyData.plainAll (l.map qd) = true := by
  induction l with
  | nil => rfl
  | cons q l ih =>
    show (PyData.plain (qd q) && PyData.plainAll (l.map qd)) = true
    rw [ih]
    rfl
theorem dat_alls {m : Mem} : ∀ l : List Q2, AllDat m (l.map qv) (l.map qd)
  | [] => .nil
  | _ :: l => .cons dat_q (dat_alls l)
theorem last_at {zs : List Int} (h : 1 ≤ zs.length) : L2.atI ((qz zs).map qv) (-1) = some (qv (z6 (lastZ zs))) := by
  have := at_last (qz_ne h)
  rw [qz_last zs h] at this
  exact this
theorem snoc_q (zs : List Int) (z : Int) : (qz zs).map qv ++ [qv (z6 z)] = (qz (zs ++ [z])).map qv := by
  unfold qz
  rw [List.map_append, List.map_append]
  rfl
theorem first_in {B : AV} (h : B ∈ [tup [AL.int 0, AL.int 1], tup [AL.int 0, AL.int 1], tup [AL.int 1, AL.int 2], tup [AL.int (0 - 1), AL.int 1]]) : ∃ z : Int, B = qv (z6 z) ∧ z.natAbs ≤ 6 := by
  simp only [List.mem_cons, List.not_mem_nil, or_false] at h
  rcases h with rfl | rfl | rfl | rfl
  · exact ⟨0, by rw [show z6 0 = (0, 1) from by decide +kernel], by decide⟩
  · exact ⟨0, by rw [show z6 0 = (0, 1) from by decide +kernel], by decide⟩
  · exact ⟨3, by rw [show z6 3 = (1, 2) from by decide +kernel], by decide⟩
  · exact ⟨-6, by rw [show z6 (-6) = (-1, 1) from by decide +kernel]; rfl, by decide⟩
theorem step_in {B : AV} (h : B ∈ [tup [AL.int 1, AL.int 1], tup [AL.int 1, AL.int 2], tup [AL.int 1, AL.int 3], tup [AL.int 2, AL.int 1]]) : ∃ z : Int, B = qv (z6 z) ∧ 0 < z ∧ z ≤ 12 := by
  simp only [List.mem_cons, List.not_mem_nil, or_false] at h
  rcases h with rfl | rfl | rfl | rfl
  · exact ⟨6, by rw [show z6 6 = (1, 1) from by decide +kernel], by decide, by decide⟩
  · exact ⟨3, by rw [show z6 3 = (1, 2) from by decide +kernel], by decide, by decide⟩
  · exact ⟨2, by rw [show z6 2 = (1, 3) from by decide +kernel], by decide, by decide⟩
  · exact ⟨12, by rw [show z6 12 = (2, 1) from by decide +kernel], by decide, by decide⟩
theorem end_in {B : AV} (h : B ∈ [tup [AL.int 1, AL.int 1], tup [AL.int 1, AL.int 2], tup [AL.int 2, AL.int 1]]) : ∃ z : Int, B = qv (z6 z) ∧ 0 < z ∧ z ≤ 12 := by
  simp only [List.mem_cons, List.not_mem_nil, or_false] at h
  rcases h with rfl | rfl | rfl
  · exact ⟨6, by rw [show z6 6 = (1, 1) from by decide +kernel], by decide, by decide⟩
  · exact ⟨3, by rw [show z6 3 = (1, 2) from by decide +kernel], by decide, by decide⟩
  · exact ⟨12, by rw [show z6 12 = (2, 1) from by decide +kernel], by decide, by decide⟩
section
variable {P : Program} {w : World} {K : PySem.W.Frag} {mg : Str → Option Value} {base : Heap} (Z : Blt mg) {C : Addr}
def C_marks : CT := fun As m Kt => ∃ (b : Addr) (c s n : Int) (d most : Nat), As = [val (.ref b), AL.int d, AL.int most] ∧ m = boxC b c s n ∧ d ≤ 4 ∧ 2 ≤ most ∧ most ≤ 8 ∧ ∀ zs c' s' n', Mks d zs → Kt (lst ((qz zs).map qv)) (boxC b c' s' n')
abbrev s_law_marks : Stmt := topS 55
abbrev N_law_marks : List Str := ["_law_box_here", "_law_degree", "_law_most", "_law_found", "_law_turn", "_law_step", "_law_same_one"]
theorem sc_law_marks : FnScope N_law_marks ["_law_box_here", "_law_degree", "_law_most"] (defScope s_law_marks) := ⟨rfl, rfl, rfl, by decide +kernel, rfl, by decide +kernel, by decide +kernel⟩
set_option maxHeartbeats 0 in
include Z in
theorem F_law_marks (FT : FnC P w K mg base 1 "_law_take" C_take) (FP : FnC P w K mg base 2 "_law_pick" C_pick) (FA : FnC P w K mg base 2 "_law_add" (C_r2 fun x y => x + y)) {f : Addr} {fd : FuncData} (F : Fun K "_law_marks" "_law_marks" s_law_marks f fd) (hm : mg "_law_marks" = some (.ref f)) (hb : Binds K fd ["_law_box_here", "_law_degree", "_law_most"] []) : FnC P w K mg base 3 "_law_marks" C_marks := by
  refine fnC F sc_law_marks hm hb (fun As m Kt ⟨b, c, s, n, d, most, h, _⟩ => by rw [h]; rfl) fun X a As m Kt ⟨b, c, s, n, d, most, e1, em, d4, m2, m8, q⟩ => ?_
  subst e1 em
  refine wss_cons ?_
  refine ws_new a 3 rfl (.inl rfl) ?_
  refine wn_list ?_
  refine wa_cons ?_
  refine we_call a FP (by decide) rfl ?_
  refine wa_cons ?_
  refine we_name a 0 rfl (.inl rfl) rfl ?_
  refine wa_cons ?_
  refine WN.we (wn_list ?_)
  refine wa_cons ?_
  refine we_tup ?_
  refine wa_cons ?_
  refine we_int ?_
  refine wa_cons ?_
  refine we_int ?_
  refine wa_nil ?_
  refine ⟨(by decide : 2 ≤ 1000), ?_⟩
  refine wa_cons ?_
  refine we_tup ?_
  refine wa_cons ?_
  refine we_int ?_
  refine wa_cons ?_
  refine we_int ?_
  refine wa_nil ?_
  refine ⟨(by decide : 2 ≤ 1000), ?_⟩
  refine wa_cons ?_
  refine we_tup ?_
  refine wa_cons ?_
  refine we_int ?_
  refine wa_cons ?_
  refine we_int ?_
  refine wa_nil ?_
  refine ⟨(by decide : 2 ≤ 1000), ?_⟩
  refine wa_cons ?_
  refine we_tup ?_
  refine wa_cons ?_
  refine we_sub ?_
  refine we_int ?_
  refine we_int ?_
  refine ⟨_, _, rfl, rfl, ?_⟩
  refine wa_cons ?_
  refine we_int ?_
  refine wa_nil ?_
  refine ⟨(by decide : 2 ≤ 1000), ?_⟩
  refine wa_nil ?_
  refine ⟨(by decide : 4 ≤ 1000), ?_⟩
  refine wa_nil ?_
  refine ⟨boxC b c s n, [], (List.append_nil _).symm, b, c, s, n, _, _, rfl, rfl, fun _ => isSq_lst, (by show 0 < 4; decide), (by show 4 < 1000; decide), fun B c1 s1 n1 hB => ?_⟩
  obtain ⟨z0, rfl, hz0⟩ := first_in hB
  refine wa_nil ?_
  refine ⟨(by decide : 1 ≤ 1000), fun fo => ?_⟩
  refine wss_cons ?_
  refine ws_for a (fun i ρ' m' => ∃ (zs : List Int) (c s n : Int) (y4 y5 y6 : Option AV), Grow d zs ∧ zs.length ≤ i + 1 ∧ m' = boxC b c s n ++ [(fo, .l ((qz zs).map qv))] ∧ ρ' = [some (val (.ref b)), some (AL.int d), some (AL.int most), some (val (.ref fo)), y4, y5, y6]) ?_
  refine wi_range1 a rfl Z.range ?_
  refine we_call a FT (by decide) rfl ?_
  refine wa_cons ?_
  refine we_name a 0 rfl (.inl rfl) rfl ?_
  refine wa_cons ?_
  refine we_sub ?_
  refine we_name a 2 rfl (.inl rfl) rfl ?_
  refine we_int ?_
  refine ⟨_, _, rfl, rfl, ?_⟩
  refine wa_nil ?_
  refine ⟨boxC b c1 s1 n1, [(fo, .l [qv (z6 z0)])], rfl, b, c1, s1, n1, _, rfl, rfl, by omega, by omega, fun r c2 s2 n2 r0 r1 => ?_⟩
  refine ⟨_, rfl, by omega, ?_⟩
  refine ⟨⟨[z0], c2, s2, n2, none, none, none, grow_one hz0, by show 1 ≤ 0 + 1; decide, rfl, rfl⟩, fun i B ρ' m' hB hW => ?_, fun ρ' m' hW => ?_⟩
  · obtain ⟨zs, c3, s3, n3, y4, y5, y6, G, hl, rfl, rfl⟩ := hW
    obtain ⟨hi, rfl⟩ := rangeA_get hB
    have hi : i + 2 ≤ most := by omega
    have l1 := G.l1
    have la := last_at l1
    refine wg_name a 4 rfl (.inl rfl) ?_
    refine wss_cons ?_
    refine ws_set a 5 rfl (.inl rfl) ?_
    refine we_call a FP (by decide) rfl ?_
    refine wa_cons ?_
    refine we_name a 0 rfl (.inl rfl) rfl ?_
    refine wa_cons ?_
    refine WN.we (wn_list ?_)
    refine wa_cons ?_
    refine we_tup ?_
    refine wa_cons ?_
    refine we_int ?_
    refine wa_cons ?_
    refine we_int ?_
    refine wa_nil ?_
    refine ⟨(by decide : 2 ≤ 1000), ?_⟩
    refine wa_cons ?_
    refine we_tup ?_
    refine wa_cons ?_
    refine we_int ?_
    refine wa_cons ?_
    refine we_int ?_
    refine wa_nil ?_
    refine ⟨(by decide : 2 ≤ 1000), ?_⟩
    refine wa_cons ?_
    refine we_tup ?_
    refine wa_cons ?_
    refine we_int ?_
    refine wa_cons ?_
    refine we_int ?_
    refine wa_nil ?_
    refine ⟨(by decide : 2 ≤ 1000), ?_⟩
    refine wa_cons ?_
    refine we_tup ?_
    refine wa_cons ?_
    refine we_int ?_
    refine wa_cons ?_
    refine we_int ?_
    refine wa_nil ?_
    refine ⟨(by decide : 2 ≤ 1000), ?_⟩
    refine wa_nil ?_
    refine ⟨(by decide : 4 ≤ 1000), ?_⟩
    refine wa_nil ?_
    refine ⟨boxC b c3 s3 n3, [(fo, .l ((qz zs).map qv))], rfl, b, c3, s3, n3, _, _, rfl, rfl, fun _ => isSq_lst, (by show 0 < 4; decide), (by show 4 < 1000; decide), fun B c4 s4 n4 hB => ?_⟩
    obtain ⟨st, rfl, st0, st1⟩ := step_in hB
    refine wss_cons ?_
    refine ws_set a 6 rfl (.inl rfl) ?_
    refine WE.mono (Kt := fun A m1 => ∃ (sm : Bool) (c s n : Int), (sm = true → 2 ≤ zs.length ∧ zs.count (lastZ zs) < d) ∧ A = AL.bool sm ∧ m1 = boxC b c s n ++ [(fo, .l ((qz zs).map qv))]) ?_ (fun A m1 ⟨sm, c5, s5, n5, hc, eA, e2⟩ => ?_)
    · refine we_and ?_
      refine we_icmp op_gt rfl ?_
      refine b_len a Z rfl ?_
      refine wa_cons ?_
      refine we_name a 3 rfl (.inl rfl) rfl ?_
      refine wa_nil ?_
      refine ⟨_, (qz zs).map qv, rfl, (isLs_mut (by simp)).sq, ?_⟩
      refine we_int ?_
      refine ⟨_, _, rfl, rfl, ?_⟩
      refine ⟨_, rfl, ?_⟩
      refine br (fun h1 => ?_) (fun _ => ⟨false, c4, s4, n4, fun h => (by cases h), rfl, rfl⟩)
      have h1 := of_decide_eq_true h1
      rw [List.length_map, qz_len] at h1
      refine we_and ?_
      refine we_icmp op_lt rfl ?_
      refine we_count a ?_
      refine we_name a 3 rfl (.inl rfl) rfl ?_
      refine ⟨⟨fo, _, boxC b c4 s4 n4, [], rfl, rfl⟩, ?_⟩
      refine we_ix ?_
      refine we_name a 3 rfl (.inl rfl) rfl ?_
      refine we_neg ?_
      refine we_int ?_
      refine ⟨_, rfl, ?_⟩
      refine ⟨(qz zs).map qv, _, _, (isLs_mut (by simp)).sq, rfl, la, ?_⟩
      refine ⟨(qz zs).map qv, (qz zs).map qd, qd (z6 (lastZ zs)), isLs_mut (by simp), dat_alls _, dat_q, plain_qd _, rfl, by show 1 < 32; decide, ?_⟩
      rw [count_z6]
      refine we_name a 1 rfl (.inl rfl) rfl ?_
      refine ⟨_, _, rfl, rfl, ?_⟩
      refine ⟨_, rfl, ?_⟩
      refine br (fun h2 => ?_) (fun _ => ⟨false, c4, s4, n4, fun h => (by cases h), rfl, rfl⟩)
      have h2 := of_decide_eq_true h2
      refine we_one ?_
      refine we_cmp (op_eqD (hu_at a)) abs_eqD rfl ?_
      refine we_call a FT (by decide) rfl ?_
      refine wa_cons ?_
      refine we_name a 0 rfl (.inl rfl) rfl ?_
      refine wa_cons ?_
      refine we_int ?_
      refine wa_nil ?_
      refine ⟨boxC b c4 s4 n4, [(fo, .l ((qz zs).map qv))], rfl, b, c4, s4, n4, _, rfl, rfl, by decide, by decide, fun r c5 s5 n5 _ _ => ?_⟩
      refine we_int ?_
      refine ⟨.int r, .int 0, isDat_int, isDat_int, rfl, rfl, ?_⟩
      exact ⟨_, c5, s5, n5, fun _ => ⟨by omega, by omega⟩, rfl, rfl⟩
    · subst eA e2
      refine wss_cons ?_
      refine ws_if ?_
      refine wt_icmp op_gt rfl ?_
      refine we_name a 1 rfl (.inl rfl) rfl ?_
      refine we_int ?_
      refine ⟨_, _, rfl, rfl, ?_⟩
      refine br (fun h1 => ?_) (fun h1 => ?_)
      · have hd := of_decide_eq_true h1
        refine wss_cons ?_
        refine ws_expr ?_
        refine we_append ?_
        refine we_name a 3 rfl (.inl rfl) rfl ?_
        refine ⟨fo, _, boxC b c5 s5 n5, [], rfl, rfl, ?_⟩
        refine WE.mono (Kt := fun A m1 => ∃ z, ((z = lastZ zs ∧ 2 ≤ zs.length ∧ zs.count (lastZ zs) < d) ∨ (lastZ zs < z ∧ z ≤ lastZ zs + 12)) ∧ A = qv (z6 z) ∧ m1 = boxC b c5 s5 n5 ++ [(fo, .l ((qz zs).map qv))]) ?_ (fun A m1 ⟨z, hz, eA, e2⟩ => ?_)
        · refine we_ifexp ?_
          refine wt_val ?_
          refine we_name a 6 rfl (.inl rfl) rfl ?_
          refine ⟨_, rfl, ?_⟩
          refine br (fun h2 => ?_) (fun h2 => ?_)
          · obtain ⟨g1, g2⟩ := hc h2
            refine we_ix ?_
            refine we_name a 3 rfl (.inl rfl) rfl ?_
            refine we_neg ?_
            refine we_int ?_
            refine ⟨_, rfl, ?_⟩
            refine ⟨(qz zs).map qv, _, _, (isLs_mut (by simp)).sq, rfl, la, ?_⟩
            exact ⟨lastZ zs, .inl ⟨rfl, g1, g2⟩, rfl, rfl⟩
          · refine we_call a FA (by decide) rfl ?_
            refine wa_cons ?_
            refine we_ix ?_
            refine we_name a 3 rfl (.inl rfl) rfl ?_
            refine we_neg ?_
            refine we_int ?_
            refine ⟨_, rfl, ?_⟩
            refine ⟨(qz zs).map qv, _, _, (isLs_mut (by simp)).sq, rfl, la, ?_⟩
            refine wa_cons ?_
            refine we_name a 5 rfl (.inl rfl) rfl ?_
            refine wa_nil ?_
            have bl := G.bd (zs.length - 1) (by omega)
            refine ⟨[], _, rfl, fx 6 (lastZ zs), fx 6 st, rfl, (b6 (by unfold lastZ; omega)).mono (by decide), (b6 (by omega)).mono (by decide), ?_⟩
            refine ⟨lastZ zs + st, .inr ⟨by omega, by omega⟩, ?_, rfl⟩
            show rv (fx 6 (lastZ zs) + fx 6 st) = _
            rw [fx_add]
            rfl
        · subst eA e2
          refine ⟨(qz zs).map qv, boxC b c5 s5 n5, [], rfl, by rw [List.length_map, qz_len]; omega, ?_⟩
          refine wss_nil ?_
          refine wss_nil ?_
          rw [snoc_q]
          exact ⟨zs ++ [z], c5, s5, n5, _, _, _, grow_snoc G (by omega) hz, by rw [List.length_append]; show zs.length + 1 ≤ _; omega, rfl, rfl⟩
      · refine wss_nil ?_
        refine wss_nil ?_
        exact ⟨zs, c5, s5, n5, _, _, _, G, by omega, rfl, rfl⟩
  · obtain ⟨zs, c3, s3, n3, y4, y5, y6, G, hl, rfl, rfl⟩ := hW
    rw [rangeA_len] at hl
    have l1 := G.l1
    have la := last_at l1
    refine wss_cons ?_
    refine ws_ret ?_
    refine we_lcat ?_
    refine we_name a 3 rfl (.inl rfl) rfl ?_
    refine WN.we (wn_list ?_)
    refine wa_cons ?_
    refine we_call a FA (by decide) rfl ?_
    refine wa_cons ?_
    refine we_ix ?_
    refine we_name a 3 rfl (.inl rfl) rfl ?_
    refine we_neg ?_
    refine we_int ?_
    refine ⟨_, rfl, ?_⟩
    refine ⟨(qz zs).map qv, _, _, (isLs_mut (by simp)).sq, rfl, la, ?_⟩
    refine wa_cons ?_
    refine we_call a FP (by decide) rfl ?_
    refine wa_cons ?_
    refine we_name a 0 rfl (.inl rfl) rfl ?_
    refine wa_cons ?_
    refine WN.we (wn_list ?_)
    refine wa_cons ?_
    refine we_tup ?_
    refine wa_cons ?_
    refine we_int ?_
    refine wa_cons ?_
    refine we_int ?_
    refine wa_nil ?_
    refine ⟨(by decide : 2 ≤ 1000), ?_⟩
    refine wa_cons ?_
    refine we_tup ?_
    refine wa_cons ?_
    refine we_int ?_
    refine wa_cons ?_
    refine we_int ?_
    refine wa_nil ?_
    refine ⟨(by decide : 2 ≤ 1000), ?_⟩
    refine wa_cons ?_
    refine we_tup ?_
    refine wa_cons ?_
    refine we_int ?_
    refine wa_cons ?_
    refine we_int ?_
    refine wa_nil ?_
    refine ⟨(by decide : 2 ≤ 1000), ?_⟩
    refine wa_nil ?_
    refine ⟨(by decide : 3 ≤ 1000), ?_⟩
    refine wa_nil ?_
    refine ⟨boxC b c3 s3 n3, [(fo, .l ((qz zs).map qv))], rfl, b, c3, s3, n3, _, _, rfl, rfl, fun _ => isSq_lst, (by show 0 < 3; decide), (by show 3 < 1000; decide), fun B c4 s4 n4 hB => ?_⟩
    obtain ⟨st, rfl, st0, st1⟩ := end_in hB
    refine wa_nil ?_
    have bl := G.bd (zs.length - 1) (by omega)
    refine ⟨[], _, rfl, fx 6 (lastZ zs), fx 6 st, rfl, (b6 (by unfold lastZ; omega)).mono (by decide), (b6 (by omega)).mono (by decide), ?_⟩
    refine wa_nil ?_
    refine ⟨(by decide : 1 ≤ 1000), ?_⟩
    refine ⟨(qz zs).map qv, _, isLs_mut (by simp), isLs_lst, by rw [List.length_map, qz_len]; show zs.length + 1 ≤ 1000; omega, ?_⟩
    have ez : rv (fx 6 (lastZ zs) + fx 6 st) = qv (z6 (lastZ zs + st)) := by
      rw [fx_add]
      rfl
    have el : (qz zs).map qv ++ [rv (fx 6 (lastZ zs) + fx 6 st)] = (qz (zs ++ [lastZ zs + st])).map qv := by rw [ez, snoc_q]
    have cd : Conv (lst ((qz zs).map qv ++ [rv (fx 6 (lastZ zs) + fx 6 st)])) (boxC b c4 s4 n4 ++ [(fo, .l ((qz zs).map qv))]) (lst ((qz (zs ++ [lastZ zs + st])).map qv)) (boxC b c4 s4 n4) := by
      rw [el]
      exact conv_drop
    refine ⟨_, boxC b c4 s4 n4, [(fo, .l ((qz zs).map qv))], rfl, cd, ?_⟩
    exact q _ _ _ _ (grow_marks G d4 (by omega) (by omega) (by omega))
end
end HB
namespace HB
open PySem PySem.Spec L2 AL
open PyProof.Rows hiding St
section
variable {K : PySem.W.Frag}
theorem abs_two {g : Int → Int → Int} : AbsCall K (fun xs H Q => ∃ i j, xs = [V.int i, V.int j] ∧ Q (.int (g i j)) H) fun As m Kt => ∃ i j, As = [AL.int i, AL.int j] ∧ Kt (AL.int (g i j)) m := by
  rintro As m Kt fr ρ σ H vs Q ⟨i, j, rfl, q⟩ o r g
  cases r with
  | cons r1 t =>
    cases t with
    | cons r2 t =>
      cases t
      exact ⟨i, j, by rw [show _ = V.int i from r1, show _ = V.int j from r2], g _ m _ H q (.refl _ _) o rfl⟩
end
section
variable {P : Program} {w : World} {K : PySem.W.Frag} {mg : Str → Option Value} {base : Heap}
variable {N : List Str} {sc : Scope} {df : Bool} {k : Nat} {X : Cx} {ρ : Rho} {m : Mem} {Kt : KA} {pos : Pos} {e f : Expr}
variable (a : At P w K mg base N sc df k X)
include a in
theorem b_max {p : Pos} (hg : sc.names.lookup ("max" : Str) = some .globalImplicit) (hm : mg "max" = none) (h : WA X [e, f] ρ m fun As m1 => ∃ i j, As = [AL.int i, AL.int j] ∧ Kt (AL.int (if j > i then j else i)) m1) (he : starEach (e :: [f]) X.env = (false, eval e X.env) :: starEach [f] X.env := by rfl) (hpl : (backTo pos (starEach [f] X.env)).any (·.1) = false := by rfl) : WE X (.Call (.Name "max" p) [e, f] [] pos) ρ m Kt :=
  we_callB a (call_max2 a.calm) abs_two hg hm (by decide +kernel) h (by decide) (by decide) he hpl
include a in
theorem b_min {p : Pos} (hg : sc.names.lookup ("min" : Str) = some .globalImplicit) (hm : mg "min" = none) (h : WA X [e, f] ρ m fun As m1 => ∃ i j, As = [AL.int i, AL.int j] ∧ Kt (AL.int (if j < i then j else i)) m1) (he : starEach (e :: [f]) X.env = (false, eval e X.env) :: starEach [f] X.env := by rfl) (hpl : (backTo pos (starEach [f] X.env)).any (·.1) = false := by rfl) : WE X (.Call (.Name "min" p) [e, f] [] pos) ρ m Kt :=
  we_callB a (call_min2 a.calm) abs_two hg hm (by decide +kernel) h (by decide) (by decide) he hpl
end
section
variable {P : Program} {w : World} {K : PySem.W.Frag} {mg : Str → Option Value} {base : Heap} (Z : Blt mg) {C : Addr}
def C_drawn : CT := fun As m Kt => ∃ (b : Addr) (c s n : Int) (dm most : Nat), As = [val (.ref b), AL.int dm, AL.int most] ∧ m = boxC b c s n ∧ dm ≤ 4 ∧ 2 ≤ most ∧ most ≤ 8 ∧ ∀ d zs hs c' s' n', Mks d zs → hs.length + 1 = d + zs.length → (∀ h ∈ hs, Bd 10 h) → Kt (toldV d zs hs) (boxC b c' s' n')
abbrev s_law_drawn : Stmt := topS 56
abbrev N_law_drawn : List Str := ["_law_box_here", "_law_degree", "_law_most", "_law_size", "_law_marks_here", "_law_turn"]
theorem sc_law_drawn : FnScope N_law_drawn ["_law_box_here", "_law_degree", "_law_most"] (defScope s_law_drawn) := ⟨rfl, rfl, rfl, by decide +kernel, rfl, by decide +kernel, by decide +kernel⟩
include Z in
theorem F_law_drawn (FT : FnC P w K mg base 1 "_law_take" C_take) (FM : FnC P w K mg base 3 "_law_marks" C_marks) (FS : FnC P w K mg base 3 "_law_small" C_small) {f : Addr} {fd : FuncData} (F : Fun K "_law_drawn" "_law_drawn" s_law_drawn f fd) (hm : mg "_law_drawn" = some (.ref f)) (hb : Binds K fd ["_law_box_here", "_law_degree", "_law_most"] []) : FnC P w K mg base 4 "_law_drawn" C_drawn := by
  refine fnC F sc_law_drawn hm hb (fun As m Kt ⟨b, c, s, n, dm, most, h, _⟩ => by rw [h]; rfl) fun X a As m Kt ⟨b, c, s, n, dm, most, e1, em, d4, m2, m8, q⟩ => ?_
  subst e1 em
  refine wss_cons ?_
  refine ws_set a 3 rfl (.inl rfl) ?_
  refine we_call a FT (by decide) rfl ?_
  refine wa_cons ?_
  refine we_name a 0 rfl (.inr (.inl rfl)) rfl ?_
  refine wa_cons ?_
  refine we_add ?_
  refine we_name a 1 rfl (.inl rfl) rfl ?_
  refine we_int ?_
  refine ⟨_, _, rfl, rfl, ?_⟩
  refine wa_nil ?_
  refine ⟨boxC b c s n, [], rfl, b, c, s, n, _, rfl, rfl, by omega, by omega, fun r c1 s1 n1 r0 r1 => ?_⟩
  obtain ⟨d, rfl⟩ : ∃ d : Nat, r = (d : Int) := ⟨r.toNat, by omega⟩
  refine wss_cons ?_
  refine ws_set a 4 rfl (.inl rfl) ?_
  refine we_call a FM (by decide) rfl ?_
  refine wa_cons ?_
  refine we_name a 0 rfl (.inr (.inl rfl)) rfl ?_
  refine wa_cons ?_
  refine we_name a 3 rfl (.inl rfl) rfl ?_
  refine wa_cons ?_
  refine we_name a 2 rfl (.inl rfl) rfl ?_
  refine wa_nil ?_
  refine ⟨boxC b c1 s1 n1, [], rfl, b, c1, s1, n1, d, most, rfl, rfl, by omega, m2, m8, fun zs c2 s2 n2 M => ?_⟩
  have l2 := M.l2
  have l9 := M.l9
  refine wss_cons ?_
  refine ws_ret ?_
  refine we_tup ?_
  refine wa_cons ?_
  refine we_name a 3 rfl (.inl rfl) rfl ?_
  refine wa_cons ?_
  refine we_name a 4 rfl (.inl rfl) rfl ?_
  refine wa_cons ?_
  refine WN.we (wn_lc1 a 5 (by decide +kernel) rfl rfl ?_)
  refine wi_range1 a rfl Z.range ?_
  refine we_sub ?_
  refine we_add ?_
  refine we_name a 3 rfl (.inl rfl) rfl ?_
  refine b_len a Z rfl ?_
  refine wa_cons ?_
  refine we_name a 4 rfl (.inl rfl) rfl ?_
  refine wa_nil ?_
  refine ⟨_, _, rfl, isSq_lst, ?_⟩
  refine ⟨_, _, rfl, rfl, ?_⟩
  refine we_int ?_
  refine ⟨_, _, rfl, rfl, ?_⟩
  rw [List.length_map, qz_len]
  refine ⟨_, rfl, by omega, ?_⟩
  refine ⟨by rw [rangeA_len]; omega, fun i acc m' => ∃ (hs : List Rat) (c s n : Int), hs.length = i ∧ (∀ h ∈ hs, Bd 10 h) ∧ acc = (hs.map qOf).map qv ∧ m' = boxC b c s n, ⟨[], c2, s2, n2, rfl, (fun h x => by cases x), rfl, rfl⟩, fun i acc m2 A hA hW X' hX => ?_, fun acc m2 hW => ?_⟩
  · obtain ⟨hs, c3, s3, n3, hl, hb, rfl, rfl⟩ := hW
    have b' := hX.at_ a
    refine we_call b' FS (by decide) rfl ?_
    refine wa_cons ?_
    refine we_name b' 0 rfl (.inr (.inl rfl)) rfl ?_
    refine wa_cons ?_
    refine we_int ?_
    refine wa_nil ?_
    refine ⟨boxC b c3 s3 n3, [], rfl, b, c3, s3, n3, 4, rfl, rfl, by decide, by decide, fun x c4 s4 n4 hx => ?_⟩
    refine ⟨hs ++ [x], c4, s4, n4, by rw [List.length_append]; show hs.length + 1 = _; omega, fun h hh => ?_, by rw [List.map_append, List.map_append]; rfl, rfl⟩
    rcases List.mem_append.mp hh with hh | hh
    · exact hb h hh
    · rw [List.mem_singleton.mp hh]
      exact hx
  · obtain ⟨hs, c3, s3, n3, hl, hb, rfl, rfl⟩ := hW
    rw [rangeA_len] at hl
    refine wa_nil ?_
    refine ⟨(by decide : 3 ≤ 1000), ?_⟩
    exact bodyE.ret (q d zs hs _ _ _ M (by omega) hb)
end
end HB
namespace HB
open PySem PySem.Spec L2 AL
open PyProof.Rows hiding St
/-! ### all weights together -/
def sumTo (f : Nat → Rat) : Nat → Rat
  | 0 => 0
  | m + 1 => sumTo f m + f m
theorem sumTo_q (f : Nat → Rat) : ∀ m, sumQ ((List.range m).map f) = sumTo f m
  | 0 => rfl
  | m + 1 => by
    have ih := sumTo_q f m
    unfold sumQ at ih ⊢
    rw [List.range_succ, List.map_append, List.foldl_append, ih]
    rfl
section
variable {k : Nat → Rat} {n : Nat} {t : Rat} {h : Nat} (Q : Kn k n t h)
def up (k : Nat → Rat) (t : Rat) (h s i : Nat) : Rat := W k t h s i * ((t - k i) / (k (i + s + 1) - k i))
include Q
theorem W_split {s i : Nat} (hs : h + s + 1 < n) : W k t h (s + 1) i = up k t h s i - up k t h s (i + 1) + W k t h s (i + 1) := by
  show W k t h s i * ((t - k i) / (k (i + s + 1) - k i)) + W k t h s (i + 1) * ((k (i + s + 2) - t) / (k (i + s + 2) - k (i + 1))) = _
  have e0 : up k t h s i = W k t h s i * ((t - k i) / (k (i + s + 1) - k i)) := rfl
  have e1 : up k t h s (i + 1) = W k t h s (i + 1) * ((t - k (i + 1)) / (k (i + s + 2) - k (i + 1))) := by
    unfold up
    have : i + 1 + s + 1 = i + s + 2 := by omega
    rw [this]
  rw [e0, e1]
  by_cases z : W k t h s (i + 1) = 0
  · rw [z]
    grind
  · obtain ⟨h1, h2⟩ := W_support s (i + 1) z
    have g := gap_pos Q h1 (j := i + s + 2) (by omega) (by omega)
    generalize W k t h s (i + 1) = w at *
    generalize W k t h s i * ((t - k i) / (k (i + s + 1) - k i)) = v
    have g2 : k (i + s + 2) - k (i + 1) ≠ 0 := by grind
    have q : (k (i + s + 2) - t) / (k (i + s + 2) - k (i + 1)) = 1 - (t - k (i + 1)) / (k (i + s + 2) - k (i + 1)) := by grind
    rw [q]
    grind
theorem sum_step2 {s : Nat} (hs : h + s + 1 < n) : ∀ m, sumTo (W k t h (s + 1)) m = up k t h s 0 - up k t h s m + (sumTo (W k t h s) (m + 1) - W k t h s 0)
  | 0 => by
    show (0 : Rat) = up k t h s 0 - up k t h s 0 + ((0 + W k t h s 0) - W k t h s 0)
    grind
  | m + 1 => by
    have ih := sum_step2 hs m
    show sumTo (W k t h (s + 1)) m + W k t h (s + 1) m = up k t h s 0 - up k t h s (m + 1) + ((sumTo (W k t h s) (m + 1) + W k t h s (m + 1)) - W k t h s 0)
    rw [ih, W_split Q hs]
    grind
theorem up_out {s i : Nat} (o : ¬ (i ≤ h ∧ h ≤ i + s)) : up k t h s i = 0 := by
  unfold up
  rw [W_zero_out Q o, Rat.zero_mul]
theorem sum_zero : ∀ m, sumTo (W k t h 0) m = if h < m then 1 else 0
  | 0 => rfl
  | m + 1 => by
    have ih := sum_zero m
    show sumTo (W k t h 0) m + (if m = h then 1 else 0) = _
    rw [ih]
    by_cases a : m = h
    · rw [if_pos a, if_neg (by omega), if_pos (by omega)]
      grind
    · rw [if_neg a]
      by_cases b : h < m
      · rw [if_pos b, if_pos (by omega)]
        grind
      · rw [if_neg b, if_neg (by omega)]
        grind
/-- all weights of a degree together are 1 -/
theorem sum_one : ∀ (s m : Nat), s ≤ h → h + s + 1 ≤ n → h < m → sumTo (W k t h s) m = 1
  | 0, m, _, _, hm => by rw [sum_zero Q, if_pos hm]
  | s + 1, m, h1, h2, hm => by
    rw [sum_step2 Q (by omega), up_out Q (by omega), up_out Q (by omega), W_zero_out Q (s := s) (i := 0) (by omega), sum_one s (m + 1) (by omega) (by omega) (by omega)]
    grind
end
end HB
namespace HB
open PySem PySem.Spec L2 AL
open PyProof.Rows hiding St
/-! ### all times led over: the weights stay -/
theorem div_zero' (x : Rat) : x / 0 = 0 := by rw [Rat.div_def, Rat.inv_zero, Rat.mul_zero]
theorem led_div {a b x y z u : Rat} (ha : 0 < a) : ((a * x + b) - (a * y + b)) / ((a * z + b) - (a * u + b)) = (x - y) / (z - u) := by
  by_cases e : z = u
  · subst e
    have e1 : (a * z + b) - (a * z + b) = 0 := by grind
    have e2 : z - z = 0 := by grind
    rw [e1, e2, div_zero', div_zero']
  · have h1 : z - u ≠ 0 := by grind
    have h2 : (a * z + b) - (a * u + b) = a * (z - u) := by grind
    have h3 : (a * x + b) - (a * y + b) = a * (x - y) := by grind
    have h4 : a ≠ 0 := by grind
    rw [h2, h3]
    generalize z - u = p at *
    generalize x - y = r
    grind
theorem W_led {k : Nat → Rat} {t a b : Rat} {h : Nat} (ha : 0 < a) : ∀ s i, W (fun i => a * k i + b) (a * t + b) h s i = W k t h s i
  | 0, i => rfl
  | s + 1, i => by
    show W (fun i => a * k i + b) (a * t + b) h s i * (((a * t + b) - (a * k i + b)) / ((a * k (i + s + 1) + b) - (a * k i + b))) + W (fun i => a * k i + b) (a * t + b) h s (i + 1) * (((a * k (i + s + 2) + b) - (a * t + b)) / ((a * k (i + s + 2) + b) - (a * k (i + 1) + b))) = W k t h s i * ((t - k i) / (k (i + s + 1) - k i)) + W k t h s (i + 1) * ((k (i + s + 2) - t) / (k (i + s + 2) - k (i + 1)))
    rw [W_led ha s i, W_led ha s (i + 1), led_div ha, led_div ha]
end HB
namespace HB
open PySem PySem.Spec L2 AL
open PyProof.Rows hiding St
/-! ### handles at their homes: the curve is the time -/
def inn (k : Nat → Rat) (s i : Nat) : Rat := sumTo (fun j => k (i + 1 + j)) s
theorem inn_last (k : Nat → Rat) (s i : Nat) : inn k (s + 1) i = inn k s i + k (i + 1 + s) := rfl
theorem inn_first (k : Nat → Rat) : ∀ s i, inn k (s + 1) i = k (i + 1) + inn k s (i + 1)
  | 0, i => by
    show (0 : Rat) + k (i + 1 + 0) = k (i + 1) + 0
    rw [Nat.add_zero]
    grind
  | s + 1, i => by
    rw [inn_last, inn_first k s i, inn_last]
    have : i + 1 + (s + 1) = i + 1 + 1 + s := by omega
    rw [this]
    grind
theorem sumTo_mul (f : Nat → Rat) (c : Rat) : ∀ m, sumTo (fun j => f j * c) m = sumTo f m * c
  | 0 => by show (0 : Rat) = 0 * c; grind
  | m + 1 => by
    show sumTo (fun j => f j * c) m + f m * c = (sumTo f m + f m) * c
    rw [sumTo_mul f c m]
    grind
theorem sumTo_add (f g : Nat → Rat) : ∀ m, sumTo (fun j => f j + g j) m = sumTo f m + sumTo g m
  | 0 => by show (0 : Rat) = 0 + 0; grind
  | m + 1 => by
    show sumTo (fun j => f j + g j) m + (f m + g m) = (sumTo f m + f m) + (sumTo g m + g m)
    rw [sumTo_add f g m]
    grind
theorem sumTo_shift (f : Nat → Rat) : ∀ m, sumTo (fun j => f (j + 1)) m = sumTo f (m + 1) - f 0
  | 0 => by show (0 : Rat) = (0 + f 0) - f 0; grind
  | m + 1 => by
    show sumTo (fun j => f (j + 1)) m + f (m + 1) = (sumTo f (m + 1) + f (m + 1)) - f 0
    rw [sumTo_shift f m]
    grind
section
variable {k : Nat → Rat} {n : Nat} {t : Rat} {h : Nat} (Q : Kn k n t h)
include Q
theorem up_gap {s i : Nat} (hs : h + s + 1 < n) : (k (i + s + 2) - k (i + 1)) * up k t h s (i + 1) = W k t h s (i + 1) * (t - k (i + 1)) := by
  have e1 : up k t h s (i + 1) = W k t h s (i + 1) * ((t - k (i + 1)) / (k (i + s + 2) - k (i + 1))) := by
    unfold up
    have : i + 1 + s + 1 = i + s + 2 := by omega
    rw [this]
  rw [e1]
  by_cases z : W k t h s (i + 1) = 0
  · rw [z]
    grind
  · obtain ⟨h1, h2⟩ := W_support s (i + 1) z
    have g := gap_pos Q h1 (j := i + s + 2) (by omega) (by omega)
    generalize W k t h s (i + 1) = w at *
    have g2 : k (i + s + 2) - k (i + 1) ≠ 0 := by grind
    generalize k (i + s + 2) - k (i + 1) = p at *
    generalize t - k (i + 1) = r
    grind
theorem line_step {s : Nat} (hs : h + s + 1 < n) : ∀ m, sumTo (fun i => inn k (s + 1) i * W k t h (s + 1) i) m = inn k (s + 1) 0 * up k t h s 0 - inn k (s + 1) m * up k t h s m + sumTo (fun j => W k t h s (j + 1) * (t + inn k s (j + 1))) m
  | 0 => by
    show (0 : Rat) = inn k (s + 1) 0 * up k t h s 0 - inn k (s + 1) 0 * up k t h s 0 + 0
    grind
  | m + 1 => by
    have ih := line_step hs m
    show sumTo (fun i => inn k (s + 1) i * W k t h (s + 1) i) m + inn k (s + 1) m * W k t h (s + 1) m = inn k (s + 1) 0 * up k t h s 0 - inn k (s + 1) (m + 1) * up k t h s (m + 1) + (sumTo (fun j => W k t h s (j + 1) * (t + inn k s (j + 1))) m + W k t h s (m + 1) * (t + inn k s (m + 1)))
    rw [ih, W_split Q hs]
    have a1 := inn_first k s m
    have a2 := inn_last k s (m + 1)
    have a3 := up_gap Q (s := s) (i := m) hs
    have e : m + 1 + 1 + s = m + s + 2 := by omega
    rw [e] at a2
    rw [a1, a2]
    grind
/-- the means of inner knots, weighed, are the time -/
theorem line_sum : ∀ (s m : Nat), s ≤ h → h + s + 1 ≤ n → h < m → sumTo (fun i => inn k s i * W k t h s i) m = (s : Rat) * t
  | 0, m, _, _, hm => by
    have e : (fun i => inn k 0 i * W k t h 0 i) = fun i => W k t h 0 i * 0 := by
      funext i
      show (0 : Rat) * _ = _ * 0
      grind
    rw [e, sumTo_mul]
    show _ * (0 : Rat) = ((0 : Nat) : Rat) * t
    grind
  | s + 1, m, h1, h2, hm => by
    rw [line_step Q (by omega), up_out Q (by omega), up_out Q (by omega), sumTo_shift (fun j => W k t h s j * (t + inn k s j)), W_zero_out Q (s := s) (i := 0) (by omega)]
    have e : (fun j => W k t h s j * (t + inn k s j)) = fun j => W k t h s j * t + inn k s j * W k t h s j := by
      funext j
      grind
    rw [e, sumTo_add, sumTo_mul, sum_one Q s (m + 1) (by omega) (by omega) (by omega), line_sum s (m + 1) (by omega) (by omega) (by omega)]
    have e2 : ((s + 1 : Nat) : Rat) = (s : Rat) + 1 := by
      rw [Rat.natCast_add]
      rfl
    rw [e2]
    grind
end
end HB
namespace HB
open PySem PySem.Spec L2 AL
open PyProof.Rows hiding St
/-! ### at a mark both pieces tell the same weights -/
section
variable {k : Nat → Rat} {t : Rat} {h u : Nat} (lo : k h < t) (hi : t < k (h + u + 1)) (eq : ∀ j, 1 ≤ j → j ≤ u → k (h + j) = t)
include lo eq in
theorem W_left : ∀ s, s ≤ u → ∀ i, W k t h s i = if i = h then 1 else 0
  | 0, _, i => rfl
  | s + 1, hs, i => by
    have ih := W_left s (by omega)
    show W k t h s i * ((t - k i) / (k (i + s + 1) - k i)) + W k t h s (i + 1) * ((k (i + s + 2) - t) / (k (i + s + 2) - k (i + 1))) = _
    rw [ih, ih]
    by_cases a : i = h
    · subst a
      have e := eq (s + 1) (by omega) hs
      rw [← Nat.add_assoc] at e
      rw [if_pos rfl, if_neg (by omega), e]
      grind
    · rw [if_neg a]
      by_cases b : i + 1 = h
      · have e := eq (s + 1) (by omega) hs
        have e2 : i + s + 2 = h + (s + 1) := by omega
        rw [if_pos b, e2, e]
        grind
      · rw [if_neg b]
        grind
include hi eq in
theorem W_right : ∀ s, s ≤ u → ∀ i, W k t (h + u) s i = if i + s = h + u then 1 else 0
  | 0, _, i => rfl
  | s + 1, hs, i => by
    have ih := W_right s (by omega)
    show W k t (h + u) s i * ((t - k i) / (k (i + s + 1) - k i)) + W k t (h + u) s (i + 1) * ((k (i + s + 2) - t) / (k (i + s + 2) - k (i + 1))) = _
    rw [ih, ih]
    by_cases a : i + s = h + u
    · have e := eq (u - s) (by omega) (by omega)
      have e2 : h + (u - s) = i := by omega
      rw [e2] at e
      rw [if_pos a, if_neg (by omega), if_neg (by omega), e]
      grind
    · rw [if_neg a]
      by_cases b : i + 1 + s = h + u
      · have e := eq (u - s) (by omega) (by omega)
        have e2 : h + (u - s) = i + 1 := by omega
        have e3 : i + s + 2 = h + u + 1 := by omega
        rw [e2] at e
        rw [if_pos b, if_pos (by omega), e3, e]
        grind
      · rw [if_neg b, if_neg (by omega)]
        grind
include lo hi eq in
theorem W_both : ∀ s, u ≤ s → ∀ i, W k t h s i = W k t (h + u) s i
  | 0, hs, i => by
    have : u = 0 := by omega
    subst this
    rfl
  | s + 1, hs, i => by
    by_cases e : u = s + 1
    · rw [W_left lo eq (s + 1) (by omega), W_right hi eq (s + 1) (by omega)]
      by_cases a : i = h
      · rw [if_pos a, if_pos (by omega)]
      · rw [if_neg a, if_neg (by omega)]
    · have ih := W_both s (by omega)
      show W k t h s i * ((t - k i) / (k (i + s + 1) - k i)) + W k t h s (i + 1) * ((k (i + s + 2) - t) / (k (i + s + 2) - k (i + 1))) = W k t (h + u) s i * ((t - k i) / (k (i + s + 1) - k i)) + W k t (h + u) s (i + 1) * ((k (i + s + 2) - t) / (k (i + s + 2) - k (i + 1)))
      rw [ih, ih]
end
/-! ### turned about -/
theorem neg_div (x y : Rat) : (-x) / (-y) = x / y := by
  by_cases e : y = 0
  · subst e
    have : (-(0 : Rat)) = 0 := by grind
    rw [this, div_zero', div_zero']
  · have : -y ≠ 0 := by grind
    grind
theorem W_turn {k : Nat → Rat} {t : Rat} {h n : Nat} (hn : h + 1 < n) : ∀ s i, i + s + 1 < n → W (fun j => -k (n - 1 - j)) (-t) (n - 2 - h) s i = W k t h s (n - 2 - s - i)
  | 0, i, hi => by
    show (if i = n - 2 - h then (1 : Rat) else 0) = if n - 2 - 0 - i = h then 1 else 0
    by_cases a : i = n - 2 - h
    · rw [if_pos a, if_pos (by omega)]
    · rw [if_neg a, if_neg (by omega)]
  | s + 1, i, hi => by
    show W (fun j => -k (n - 1 - j)) (-t) (n - 2 - h) s i * ((-t - -k (n - 1 - i)) / (-k (n - 1 - (i + s + 1)) - -k (n - 1 - i))) + W (fun j => -k (n - 1 - j)) (-t) (n - 2 - h) s (i + 1) * ((-k (n - 1 - (i + s + 2)) - -t) / (-k (n - 1 - (i + s + 2)) - -k (n - 1 - (i + 1)))) = W k t h s (n - 2 - (s + 1) - i) * ((t - k (n - 2 - (s + 1) - i)) / (k (n - 2 - (s + 1) - i + s + 1) - k (n - 2 - (s + 1) - i))) + W k t h s (n - 2 - (s + 1) - i + 1) * ((k (n - 2 - (s + 1) - i + s + 2) - t) / (k (n - 2 - (s + 1) - i + s + 2) - k (n - 2 - (s + 1) - i + 1)))
    rw [W_turn hn s i (by omega), W_turn hn s (i + 1) (by omega)]
    have e1 : n - 2 - (s + 1) - i + 1 = n - 2 - s - i := by omega
    have e2 : n - 2 - s - (i + 1) = n - 2 - (s + 1) - i := by omega
    have e3 : n - 2 - (s + 1) - i + s + 2 = n - 1 - i := by omega
    have e4 : n - 2 - (s + 1) - i + s + 1 = n - 1 - (i + 1) := by omega
    have e5 : n - 1 - (i + s + 2) = n - 2 - (s + 1) - i := by omega
    have e6 : n - 1 - (i + s + 1) = n - 2 - s - i := by omega
    rw [e1, e2, e3, e4, e5, e6]
    have f1 : -t - -k (n - 1 - i) = -(t - k (n - 1 - i)) := by grind
    have f2 : -k (n - 2 - s - i) - -k (n - 1 - i) = k (n - 1 - i) - k (n - 2 - s - i) := by grind
    have f3 : -k (n - 2 - (s + 1) - i) - -t = t - k (n - 2 - (s + 1) - i) := by grind
    have f4 : -k (n - 2 - (s + 1) - i) - -k (n - 1 - (i + 1)) = k (n - 1 - (i + 1)) - k (n - 2 - (s + 1) - i) := by grind
    have f5 : -(t - k (n - 1 - i)) = k (n - 1 - i) - t := by grind
    rw [f1, f2, f3, f4, f5]
    grind
end HB
namespace HB
open PySem PySem.Spec L2 AL
open PyProof.Rows hiding St
/-- marks as fractions -/
structure Mx (d : Nat) (xs : List Rat) : Prop where
  l2 : 2 ≤ xs.length
  l9 : xs.length ≤ 9
  d4 : d ≤ 4
  so : ∀ i j, i ≤ j → j < xs.length → xs.getD i 0 ≤ xs.getD j 0
  fi : xs.getD 0 0 < xs.getD 1 0
  la : xs.getD (xs.length - 2) 0 < xs.getD (xs.length - 1) 0
  mu : ∀ i, 1 ≤ i → i + d + 1 < xs.length → xs.getD i 0 < xs.getD (i + d) 0
  bd : ∀ i, i < xs.length → Bd 30 (xs.getD i 0)
abbrev qx (xs : List Rat) : List Q2 := xs.map qOf
def kx (d : Nat) (xs : List Rat) (i : Nat) : Rat := xs.getD (min (i - d) (xs.length - 1)) 0
theorem qx_getD (xs : List Rat) (i : Nat) : (qx xs).getD i Q0 = qOf (xs.getD i 0) := by
  rw [List.getD_eq_getElem?_getD, List.getD_eq_getElem?_getD, List.getElem?_map]
  cases xs[i]? with
  | none => exact qOf_zero.symm
  | some x => rfl
theorem qx_len (xs : List Rat) : (qx xs).length = xs.length := List.length_map _
theorem qx_head (xs : List Rat) : (qx xs).headD Q0 = qOf (xs.getD 0 0) := by
  cases xs with
  | nil => exact qOf_zero.symm
  | cons a l => rfl
theorem qx_last (xs : List Rat) (h : 1 ≤ xs.length) : (qx xs).getLastD Q0 = qOf (xs.getD (xs.length - 1) 0) := by
  rw [List.getLastD_eq_getLast?, List.getLast?_eq_getElem?, qx_len, List.getElem?_map, List.getD_eq_getElem?_getD]
  cases e : xs[xs.length - 1]? with
  | none =>
    rw [List.getElem?_eq_none_iff] at e
    omega
  | some x => rfl
theorem knots_x {d : Nat} {xs : List Rat} (h : 1 ≤ xs.length) {i : Nat} (hi : i < xs.length + 2 * d) : (knotsM d (qx xs))[i]? = some (qOf (kx d xs i)) := by
  unfold knotsM kx
  rw [qx_head, qx_last xs h]
  by_cases a : i < d
  · rw [List.append_assoc, List.getElem?_append_left (by rw [List.length_replicate]; exact a), List.getElem?_replicate, if_pos a]
    have : min (i - d) (xs.length - 1) = 0 := by omega
    rw [this]
  · by_cases b : i < d + xs.length
    · rw [List.append_assoc, List.getElem?_append_right (by rw [List.length_replicate]; omega), List.length_replicate, List.getElem?_append_left (by rw [qx_len]; omega)]
      have e : min (i - d) (xs.length - 1) = i - d := by omega
      rw [e, List.getElem?_map, List.getD_eq_getElem?_getD]
      have := List.getElem?_eq_getElem (l := xs) (i := i - d) (by omega)
      rw [this]
      rfl
    · rw [List.getElem?_append_right (by rw [List.length_append, List.length_replicate, qx_len]; omega), List.length_append, List.length_replicate, qx_len, List.getElem?_replicate, if_pos (by omega)]
      have e : min (i - d) (xs.length - 1) = xs.length - 1 := by omega
      rw [e]
theorem kx_len {d : Nat} {xs : List Rat} : (knotsM d (qx xs)).length = xs.length + 2 * d := by
  unfold knotsM
  rw [List.length_append, List.length_append, List.length_replicate, List.length_replicate, qx_len]
  omega
theorem less30 {a b : Rat} (ha : Bd 30 a) (hb : Bd 30 b) : lessO (qOf a) (qOf b) = some (decide (a < b)) := lessO_q ha hb (by decide) (by decide)
theorem inner_getx {xs : List Rat} (h : 2 ≤ xs.length) {i : Nat} {q : Q2} (hq : (innerM (qx xs))[i]? = some q) : i + 2 < xs.length ∧ q = qOf (xs.getD (i + 1) 0) := by
  unfold innerM cutQ at hq
  rw [qx_len] at hq
  have e1 : min 1 xs.length = 1 := by omega
  have e2 : min (xs.length - 1) xs.length - 1 = xs.length - 2 := by omega
  rw [e1, e2, List.getElem?_take] at hq
  split at hq
  · rw [List.getElem?_drop, List.getElem?_map] at hq
    obtain ⟨x, hx, rfl⟩ := Option.map_eq_some_iff.mp hq
    refine ⟨by omega, ?_⟩
    have e : 1 + i = i + 1 := by omega
    rw [e] at hx
    rw [List.getD_eq_getElem?_getD, hx]
    rfl
  · cases hq
theorem marks_x {d : Nat} {xs : List Rat} (M : Mx d xs) : marksO d (qx xs) = true := by
  have l2 := M.l2
  have l9 := M.l9
  unfold marksO
  simp only [Bool.and_eq_true, decide_eq_true_eq, beq_iff_eq]
  refine ⟨⟨⟨⟨⟨?_, ?_⟩, ?_⟩, ?_⟩, ?_⟩, ?_⟩
  · rw [qx_len]; omega
  · rw [qx_len]; omega
  · rw [qx_getD, qx_getD, less30 (M.bd _ (by omega)) (M.bd _ (by omega)), decide_eq_true M.fi]
  · rw [qx_len, qx_getD, qx_getD, less30 (M.bd _ (by omega)) (M.bd _ (by omega)), decide_eq_true M.la]
  · refine zip_alln fun i x y hx hy => ?_
    obtain ⟨h1, rfl⟩ := inner_getx l2 hx
    obtain ⟨h2, rfl⟩ := inner_getx l2 (tail_get hy)
    have := M.so (i + 1) (1 + i + 1) (by omega) (by omega)
    show (lessO _ _ == some false) = true
    rw [less30 (M.bd _ (by omega)) (M.bd _ (by omega)), decide_eq_false (by grind)]
    rfl
  · refine zip_alln fun i x y hx hy => ?_
    obtain ⟨h1, rfl⟩ := inner_getx l2 hx
    obtain ⟨h2, rfl⟩ := inner_getx l2 (tail_get hy)
    have := M.mu (i + 1) (by omega) (by omega)
    refine decide_eq_true fun e => ?_
    have e2 := qOf_inj e
    have e3 : d + i + 1 = i + 1 + d := by omega
    rw [e3] at e2
    grind
theorem kx_mono {d : Nat} {xs : List Rat} (M : Mx d xs) {i j : Nat} (h : i ≤ j) : kx d xs i ≤ kx d xs j := by
  have := M.l2
  unfold kx
  exact M.so _ _ (by omega) (by omega)
theorem bw_mono {q s d : Nat} (h : s ≤ d) : bw q s ≤ bw q d := by
  induction h with
  | refl => exact Nat.le_refl _
  | step _ ih =>
    refine Nat.le_trans ih ?_
    show _ ≤ 2 * (bw q _ + q) + 1
    omega
/-! ### the weights at a time -/
theorem weights_x {d : Nat} {xs : List Rat} (M : Mx d xs) {t : Rat} {q : Nat} (B : Kb q (kx d xs) (xs.length + 2 * d) t) (q2 : q ≤ 2000) (hq : bw q d ≤ 2000) (t0 : xs.getD 0 0 ≤ t) (t1 : t ≤ xs.getD (xs.length - 1) 0) :
    ∃ h, weightsO d (qx xs) (qOf t) = some ((List.range (xs.length + 2 * d - 1 - d)).map fun i => qOf (W (kx d xs) t h d i)) ∧ Kn (kx d xs) (xs.length + 2 * d) t h ∧ d ≤ h ∧ h + 2 ≤ d + xs.length ∧
    (t < kx d xs (h + 1) ∨ h + 2 = d + xs.length) := by
  have l2 := M.l2
  have l9 := M.l9
  have d4 := M.d4
  have kq : ∀ i, i < xs.length + 2 * d → (knotsM d (qx xs))[i]? = some (qOf (kx d xs i)) := fun i hi => knots_x (by omega) hi
  have e0 : kx d xs d = xs.getD 0 0 := by
    unfold kx
    congr 1
    omega
  have le0 : kx d xs d ≤ t := by rw [e0]; exact t0
  obtain ⟨h, e1, e2, e3, e4, e5⟩ := ahead_q (last := d + xs.length - 2) kq B.bk B.bt (by omega) (xs.length + 2 * d) d (by omega) (by omega) le0
  have elast : kx d xs (d + xs.length - 2 + 1) = xs.getD (xs.length - 1) 0 := by unfold kx; congr 1; omega
  have K : Kn (kx d xs) (xs.length + 2 * d) t h := by
    refine ⟨fun i j hij _ => kx_mono M hij, by omega, ?_, e4, ?_⟩
    · rcases e5 with e5 | e5
      · subst e5
        rw [elast]
        have e : kx d xs (d + xs.length - 2) = xs.getD (xs.length - 2) 0 := by unfold kx; congr 1; omega
        rw [e]
        exact M.la
      · grind
    · rcases e5 with e5 | e5
      · subst e5
        rw [elast]
        exact t1
      · grind
  refine ⟨h, ?_, K, e2, by omega, ?_⟩
  · unfold weightsO guardO
    have g : (!(qx xs).isEmpty && decide ((qx xs).length + 2 * d ≤ 900) && withinO (qx xs) (qOf t)) = true := by
      rw [Bool.and_eq_true, Bool.and_eq_true]
      refine ⟨⟨?_, ?_⟩, ?_⟩
      · cases eq : qx xs with
        | nil =>
          have := qx_len xs
          rw [eq] at this
          simp at this
          omega
        | cons a b => rfl
      · rw [qx_len]
        exact decide_eq_true (by omega)
      · unfold withinO
        rw [qx_head, qx_last xs (by omega), Bool.and_eq_true]
        rw [less30 B.bt (M.bd _ (by omega)), less30 (M.bd _ (by omega)) B.bt, decide_eq_false (by grind), decide_eq_false (by grind)]
        exact ⟨rfl, rfl⟩
    rw [if_pos g, kx_len]
    have el : ((xs.length + 2 * d : Nat) : Int) - d - 2 = ((d + xs.length - 2 : Nat) : Int) := by omega
    rw [el, e1, Option.bind_some]
    have r0 : ((List.range (xs.length + 2 * d - 1)).map fun (i : Nat) => if i = h then Q1 else Q0) = (List.range (xs.length + 2 * d - 1)).map fun i => qOf (W (kx d xs) t h 0 i) := by
      refine List.map_congr_left fun i _ => ?_
      unfold W
      split
      · rfl
      · rfl
    rw [r0]
    exact rows_q K B kq q2 d (by omega) fun s hs => Nat.le_trans (bw_mono (by omega)) hq
  · rcases e5 with e5 | e5
    · exact .inr (by omega)
    · exact .inl e5
/-! ### totals with few that are not nought -/
theorem total_nz {k : Nat} : ∀ (l : List Rat) (acc : Rat) (j c : Nat), Bd j acc → (∀ x ∈ l, Bd k x) → l.countP (fun x => decide (x ≠ 0)) ≤ c → k ≤ 4000 → j + (k + 1) * c ≤ 4000 → (l.map qOf).foldlM addO (qOf acc) = some (qOf (l.foldl (fun x y => x + y) acc)) ∧ Bd (j + (k + 1) * c) (l.foldl (fun x y => x + y) acc)
  | [], acc, j, c, ha, _, _, _, _ => ⟨rfl, ha.mono (by omega)⟩
  | x :: l, acc, j, c, ha, hl, hc, hk, hj => by
    have hx := hl x List.mem_cons_self
    have e := addO_q ha hx (by omega) hk
    show ((addO (qOf acc) (qOf x)).bind fun a => (l.map qOf).foldlM addO a) = some (qOf (l.foldl (fun x y => x + y) (acc + x))) ∧ Bd (j + (k + 1) * c) (l.foldl (fun x y => x + y) (acc + x))
    rw [e, Option.bind_some]
    by_cases z : x = 0
    · subst z
      have e2 : acc + 0 = acc := by grind
      rw [e2]
      refine total_nz l acc j c ha (fun y hy => hl y (List.mem_cons_of_mem _ hy)) ?_ hk hj
      rw [List.countP_cons] at hc
      simpa using hc
    · rw [List.countP_cons, if_pos (decide_eq_true z)] at hc
      obtain ⟨c', rfl⟩ : ∃ c', c = c' + 1 := ⟨c - 1, by omega⟩
      have m1 : (k + 1) * (c' + 1) = (k + 1) * c' + (k + 1) := Nat.mul_succ _ _
      have := total_nz l (acc + x) (j + k + 1) c' (ha.add hx) (fun y hy => hl y (List.mem_cons_of_mem _ hy)) (by omega) hk (by omega)
      exact ⟨this.1, this.2.mono (by omega)⟩
theorem count_near {p : Nat → Bool} {lo d : Nat} (h : ∀ i, p i = true → lo ≤ i ∧ i ≤ lo + d) : ∀ m, (List.range m).countP p ≤ min (m - lo) (d + 1)
  | 0 => by simp
  | m + 1 => by
    rw [List.range_succ, List.countP_append]
    have ih := count_near h m
    by_cases e : p m = true
    · have := h m e
      rw [List.countP_cons, if_pos e]
      simp
      omega
    · rw [List.countP_cons, if_neg e]
      simp
      omega
/-- the value: handles by their weights -/
def Vx (d : Nat) (xs hs : List Rat) (t : Rat) (h : Nat) : Rat := sumTo (fun i => hs.getD i 0 * W (kx d xs) t h d i) hs.length
theorem mapM_at {α γ : Type} {f : α → Option γ} : ∀ {l : List α} {g : Nat → γ}, (∀ i x, l[i]? = some x → f x = some (g i)) → l.mapM f = some ((List.range l.length).map g)
  | [], g, _ => rfl
  | a :: l, g, h => by
    rw [List.mapM_cons, h 0 a rfl, mapM_at (g := fun i => g (i + 1)) fun i x hx => h (i + 1) x hx]
    simp [List.range_succ_eq_map, Function.comp_def]
theorem W_b4 {d : Nat} (h : d ≤ 4) : bw 11 d ≤ 361 := by
  have : d = 0 ∨ d = 1 ∨ d = 2 ∨ d = 3 ∨ d = 4 := by omega
  rcases this with rfl | rfl | rfl | rfl | rfl <;> decide
theorem value_x {d : Nat} {xs hs : List Rat} (M : Mx d xs) {t : Rat} {h b q : Nat} (B : Kb q (kx d xs) (xs.length + 2 * d) t) (Q : Kn (kx d xs) (xs.length + 2 * d) t h)
    (hw : weightsO d (qx xs) (qOf t) = some ((List.range (xs.length + 2 * d - 1 - d)).map fun i => qOf (W (kx d xs) t h d i))) (hl : hs.length + 1 = d + xs.length) (hb : ∀ x ∈ hs, Bd b x) (b8 : b ≤ 80) (hd : bw q d ≤ 361) :
    valueO d (qx xs) (hs.map qOf) (qOf t) = some (qOf (Vx d xs hs t h)) ∧ Bd (1 + 5 * (b + 362)) (Vx d xs hs t h) := by
  have l2 := M.l2
  have l9 := M.l9
  have d4 := M.d4
  have en : xs.length + 2 * d - 1 - d = hs.length := by omega
  have wb : ∀ i, i < hs.length → Bd 361 (W (kx d xs) t h d i) := fun i hi => (W_bd Q B d i (by omega)).mono hd
  have hg : ∀ i x, hs[i]? = some x → hs.getD i 0 = x ∧ i < hs.length ∧ Bd b x := fun i x hx => by
    refine ⟨by rw [List.getD_eq_getElem?_getD, hx]; rfl, ?_, hb x (List.mem_of_getElem? hx)⟩
    exact (List.getElem?_eq_some_iff.mp hx).1
  unfold valueO
  rw [hw, Option.bind_some, en]
  have e1 : ((hs.map qOf).zip ((List.range hs.length).map fun i => qOf (W (kx d xs) t h d i))).mapM (fun p => mulO p.1 p.2) = some (((List.range hs.length).map fun i => hs.getD i 0 * W (kx d xs) t h d i).map qOf) := by
    have el : ((hs.map qOf).zip ((List.range hs.length).map fun i => qOf (W (kx d xs) t h d i))).length = hs.length := by
      rw [List.length_zip, List.length_map, List.length_map, List.length_range]
      omega
    rw [mapM_at (g := fun i => qOf (hs.getD i 0 * W (kx d xs) t h d i)), el, List.map_map]
    · rfl
    · rintro i ⟨x, y⟩ hxy
      rw [List.getElem?_zip_eq_some] at hxy
      obtain ⟨h1, h2⟩ := hxy
      rw [List.getElem?_map] at h1
      obtain ⟨x', hx, rfl⟩ := Option.map_eq_some_iff.mp h1
      obtain ⟨g1, g2, g3⟩ := hg i x' hx
      rw [range_map_get g2] at h2
      have h2 := Option.some.inj h2
      dsimp only at h2
      subst h2
      rw [g1]
      exact mulO_q g3 (wb i g2) (by omega) (by decide)
  rw [e1, Option.bind_some]
  have bl : ∀ x ∈ (List.range hs.length).map fun i => hs.getD i 0 * W (kx d xs) t h d i, Bd (b + 361) x := fun x hx => by
    obtain ⟨i, hi, rfl⟩ := List.mem_map.mp hx
    have hi := List.mem_range.mp hi
    exact (hb _ (by rw [List.getD_eq_getElem?_getD, List.getElem?_eq_getElem hi]; exact List.getElem_mem hi)).mul (wb i hi)
  have cl : ((List.range hs.length).map fun i => hs.getD i 0 * W (kx d xs) t h d i).countP (fun x => decide (x ≠ 0)) ≤ 5 := by
    rw [List.countP_map]
    refine Nat.le_trans (count_near (lo := h - d) (d := d) (fun i hi => ?_) hs.length) (by omega)
    have hi : hs.getD i 0 * W (kx d xs) t h d i ≠ 0 := of_decide_eq_true hi
    have : W (kx d xs) t h d i ≠ 0 := fun z => hi (by rw [z, Rat.mul_zero])
    have := W_support d i this
    omega
  have := total_nz _ 0 1 5 bd0 bl cl (by omega) (by omega)
  have e2 : ((List.range hs.length).map fun i => hs.getD i 0 * W (kx d xs) t h d i).foldl (fun x y => x + y) 0 = Vx d xs hs t h := sumTo_q _ _
  rw [e2] at this
  refine ⟨?_, this.2.mono (by omega)⟩
  unfold totalO
  exact this.1
end HB
namespace HB
open PySem PySem.Spec L2 AL
open PyProof.Rows hiding St
/-- the piece is the only one -/
theorem h_uniq {k : Nat → Rat} {n last : Nat} {t : Rat} {h g : Nat} (mono : ∀ i j, i ≤ j → k i ≤ k j) (h1 : k h ≤ t) (h2 : t < k (h + 1) ∨ h + 2 = n) (h3 : h + 2 ≤ n) (g1 : k g ≤ t) (g2 : t < k (g + 1) ∨ g + 2 = n) (g3 : g + 2 ≤ n) : h = g := by
  rcases Nat.lt_trichotomy h g with c | c | c
  · have := mono (h + 1) g (by omega)
    rcases h2 with h2 | h2
    · grind
    · omega
  · exact c
  · have := mono (g + 1) h (by omega)
    rcases g2 with g2 | g2
    · grind
    · omega
theorem getD_map {f : Rat → Rat} {xs : List Rat} {i : Nat} (h : i < xs.length) : (xs.map f).getD i 0 = f (xs.getD i 0) := by
  rw [List.getD_eq_getElem?_getD, List.getD_eq_getElem?_getD, List.getElem?_map, List.getElem?_eq_getElem h]
  rfl
theorem kx_map {f : Rat → Rat} {d : Nat} {xs : List Rat} (h : 1 ≤ xs.length) (i : Nat) : kx d (xs.map f) i = f (kx d xs i) := by
  unfold kx
  rw [List.length_map, getD_map (by omega)]
/-! ### all times led over -/
def ledL (a b : Rat) (xs : List Rat) : List Rat := xs.map fun x => x * a + b
theorem led_lt {a b x y : Rat} (ha : 0 < a) (h : x < y) : x * a + b < y * a + b := by
  have : 0 < (y - x) * a := Rat.mul_pos (by grind) ha
  grind
theorem led_le {a b x y : Rat} (ha : 0 < a) (h : x ≤ y) : x * a + b ≤ y * a + b := by
  by_cases e : x = y
  · subst e
    grind
  · have := led_lt (b := b) ha (x := x) (y := y) (by grind)
    grind
theorem led_lt' {a b x y : Rat} (ha : 0 < a) (h : x * a + b < y * a + b) : x < y := by
  by_cases e : x < y
  · exact e
  · have := led_le (b := b) ha (x := y) (y := x) (by grind)
    grind
section
variable {d : Nat} {xs hs : List Rat} (M : Mx d xs) {t a b : Rat} (ha : 0 < a) (hbd : ∀ i, i < xs.length → Bd 30 (xs.getD i 0 * a + b))
include M ha hbd
theorem mx_led : Mx d (ledL a b xs) := by
  have l2 := M.l2
  have e : (ledL a b xs).length = xs.length := List.length_map _
  have g : ∀ i, i < xs.length → (ledL a b xs).getD i 0 = xs.getD i 0 * a + b := fun i hi => getD_map hi
  refine ⟨by omega, by have := M.l9; omega, M.d4, fun i j h1 h2 => ?_, ?_, ?_, fun i h1 h2 => ?_, fun i hi => ?_⟩
  · rw [g i (by omega), g j (by omega)]
    exact led_le ha (M.so i j h1 (by omega))
  · rw [g 0 (by omega), g 1 (by omega)]
    exact led_lt ha M.fi
  · rw [e, g _ (by omega), g _ (by omega)]
    exact led_lt ha M.la
  · rw [g _ (by omega), g _ (by omega)]
    exact led_lt ha (M.mu i h1 (by omega))
  · rw [g _ (by omega)]
    exact hbd i (by omega)
theorem kx_led (i : Nat) : kx d (ledL a b xs) i = kx d xs i * a + b := kx_map (by have := M.l2; omega) i
theorem led_div' {x y z u : Rat} : ((x * a + b) - (y * a + b)) / ((z * a + b) - (u * a + b)) = (x - y) / (z - u) := by
  have := led_div (a := a) (b := b) (x := x) (y := y) (z := z) (u := u) ha
  rw [Rat.mul_comm a x, Rat.mul_comm a y, Rat.mul_comm a z, Rat.mul_comm a u] at this
  exact this
theorem kb_led {q : Nat} (B : Kb q (kx d xs) (xs.length + 2 * d) t) (bt : Bd 30 (t * a + b)) : Kb q (kx d (ledL a b xs)) ((ledL a b xs).length + 2 * d) (t * a + b) := by
  have l2 := M.l2
  have e : (ledL a b xs).length = xs.length := List.length_map _
  have hk := kx_led M ha hbd
  rw [e]
  refine ⟨fun i hi => ?_, bt, fun i j hi hj hl => ?_, fun i j hi hj hl => ?_⟩
  · rw [hk]
    exact hbd _ (by omega)
  · rw [hk, hk] at hl
    rw [hk, hk, led_div' M ha hbd]
    exact B.q1 i j hi hj (led_lt' ha hl)
  · rw [hk, hk] at hl
    rw [hk, hk, led_div' M ha hbd]
    exact B.q2 i j hi hj (led_lt' ha hl)
theorem V_led {h : Nat} : Vx d (ledL a b xs) hs (t * a + b) h = Vx d xs hs t h := by
  unfold Vx
  have e : kx d (ledL a b xs) = fun i => a * kx d xs i + b := by
    funext i
    rw [kx_led M ha hbd, Rat.mul_comm]
  have e2 : t * a + b = a * t + b := by rw [Rat.mul_comm]
  congr 1
  funext i
  rw [e, e2, W_led ha]
end
end HB
namespace HB
open PySem PySem.Spec L2 AL
open PyProof.Rows hiding St
theorem Bd.neg {k : Nat} {x : Rat} (h : Bd k x) : Bd k (-x) := ⟨by show (-x.num).natAbs < 2 ^ k; rw [Int.natAbs_neg]; exact h.1, h.2⟩
theorem sumTo_congr {f g : Nat → Rat} : ∀ {m : Nat}, (∀ i, i < m → f i = g i) → sumTo f m = sumTo g m
  | 0, _ => rfl
  | m + 1, h => by
    show sumTo f m + f m = sumTo g m + g m
    rw [sumTo_congr fun i hi => h i (by omega), h m (by omega)]
theorem sumTo_rev : ∀ (m : Nat) (f : Nat → Rat), sumTo (fun i => f (m - 1 - i)) m = sumTo f m
  | 0, _ => rfl
  | m + 1, f => by
    show sumTo (fun i => f (m + 1 - 1 - i)) m + f (m + 1 - 1 - m) = sumTo f (m + 1)
    have e : sumTo (fun i => f (m + 1 - 1 - i)) m = sumTo (fun i => (fun j => f (j + 1)) (m - 1 - i)) m := sumTo_congr fun i hi => by
      show f _ = f _
      congr 1
      omega
    have e0 : m + 1 - 1 - m = 0 := by omega
    rw [e, sumTo_rev m fun j => f (j + 1), sumTo_shift, e0]
    grind
def backL (xs : List Rat) : List Rat := (xs.map fun x => 0 - x).reverse
theorem back_len (xs : List Rat) : (backL xs).length = xs.length := by
  unfold backL
  rw [List.length_reverse, List.length_map]
theorem rev_getD {xs : List Rat} {i : Nat} (h : i < xs.length) : xs.reverse.getD i 0 = xs.getD (xs.length - 1 - i) 0 := by
  rw [List.getD_eq_getElem?_getD, List.getD_eq_getElem?_getD, List.getElem?_reverse h]
theorem back_getD {xs : List Rat} {i : Nat} (h : i < xs.length) : (backL xs).getD i 0 = -xs.getD (xs.length - 1 - i) 0 := by
  unfold backL
  rw [rev_getD (by rw [List.length_map]; exact h), List.length_map, getD_map (by omega)]
  grind
theorem kx_back {d : Nat} {xs : List Rat} (h : 1 ≤ xs.length) (i : Nat) : kx d (backL xs) i = -kx d xs (xs.length + 2 * d - 1 - i) := by
  unfold kx
  rw [back_len, back_getD (by omega)]
  congr 2
  omega
section
variable {d : Nat} {xs hs : List Rat} (M : Mx d xs) {t : Rat}
include M
theorem mx_back : Mx d (backL xs) := by
  have l2 := M.l2
  have e := back_len xs
  have g : ∀ i, i < xs.length → (backL xs).getD i 0 = -xs.getD (xs.length - 1 - i) 0 := fun i hi => back_getD hi
  refine ⟨by omega, by have := M.l9; omega, M.d4, fun i j h1 h2 => ?_, ?_, ?_, fun i h1 h2 => ?_, fun i hi => ?_⟩
  · rw [g i (by omega), g j (by omega)]
    have := M.so (xs.length - 1 - j) (xs.length - 1 - i) (by omega) (by omega)
    grind
  · rw [g 0 (by omega), g 1 (by omega)]
    have := M.la
    have e1 : xs.length - 1 - 0 = xs.length - 1 := by omega
    have e2 : xs.length - 1 - 1 = xs.length - 2 := by omega
    rw [e1, e2]
    grind
  · rw [e, g _ (by omega), g _ (by omega)]
    have := M.fi
    have e1 : xs.length - 1 - (xs.length - 2) = 1 := by omega
    have e2 : xs.length - 1 - (xs.length - 1) = 0 := by omega
    rw [e1, e2]
    grind
  · rw [g _ (by omega), g _ (by omega)]
    have := M.mu (xs.length - 1 - (i + d)) (by omega) (by omega)
    have e1 : xs.length - 1 - (i + d) + d = xs.length - 1 - i := by omega
    rw [e1] at this
    grind
  · rw [g _ (by omega)]
    have := M.bd (xs.length - 1 - i) (by omega)
    exact this.neg
theorem kb_back {q : Nat} (B : Kb q (kx d xs) (xs.length + 2 * d) t) : Kb q (kx d (backL xs)) ((backL xs).length + 2 * d) (-t) := by
  have l2 := M.l2
  have hk := kx_back (d := d) (xs := xs) (by omega)
  rw [back_len]
  refine ⟨fun i hi => ?_, ?_, fun i j hi hj hl => ?_, fun i j hi hj hl => ?_⟩
  · rw [hk]
    have := B.bk (xs.length + 2 * d - 1 - i) (by omega)
    exact this.neg
  · have := B.bt
    exact this.neg
  · rw [hk, hk] at hl
    rw [hk, hk]
    have := B.q2 (xs.length + 2 * d - 1 - j) (xs.length + 2 * d - 1 - i) (by omega) (by omega) (by grind)
    have e1 : -t - -kx d xs (xs.length + 2 * d - 1 - j) = kx d xs (xs.length + 2 * d - 1 - j) - t := by grind
    have e2 : -kx d xs (xs.length + 2 * d - 1 - i) - -kx d xs (xs.length + 2 * d - 1 - j) = kx d xs (xs.length + 2 * d - 1 - j) - kx d xs (xs.length + 2 * d - 1 - i) := by grind
    rw [e1, e2]
    exact this
  · rw [hk, hk] at hl
    rw [hk, hk]
    have := B.q1 (xs.length + 2 * d - 1 - j) (xs.length + 2 * d - 1 - i) (by omega) (by omega) (by grind)
    have e1 : -kx d xs (xs.length + 2 * d - 1 - i) - -t = t - kx d xs (xs.length + 2 * d - 1 - i) := by grind
    have e2 : -kx d xs (xs.length + 2 * d - 1 - i) - -kx d xs (xs.length + 2 * d - 1 - j) = kx d xs (xs.length + 2 * d - 1 - j) - kx d xs (xs.length + 2 * d - 1 - i) := by grind
    rw [e1, e2]
    exact this
theorem V_back {h g : Nat} (Q : Kn (kx d xs) (xs.length + 2 * d) t h) (h1 : d ≤ h) (h2 : h + 2 ≤ d + xs.length) (h3 : t < kx d xs (h + 1) ∨ h + 2 = d + xs.length)
    (Q' : Kn (kx d (backL xs)) ((backL xs).length + 2 * d) (-t) g) (g1 : d ≤ g) (g2 : g + 2 ≤ d + (backL xs).length) (g3 : -t < kx d (backL xs) (g + 1) ∨ g + 2 = d + (backL xs).length) (hl : hs.length + 1 = d + xs.length) :
    Vx d (backL xs) hs.reverse (-t) g = Vx d xs hs t h := by
  have l2 := M.l2
  have mono : ∀ i j, i ≤ j → kx d xs i ≤ kx d xs j := fun i j hij => kx_mono M hij
  rw [back_len] at g2 g3
  have hk := kx_back (d := d) (xs := xs) (by omega)
  obtain ⟨f, hf⟩ : ∃ f, f + g + 2 = xs.length + 2 * d := ⟨xs.length + 2 * d - 2 - g, by omega⟩
  have k1 := Q'.lo
  have k2 := Q'.lt
  have k3 := Q'.hi
  have i1 : xs.length + 2 * d - 1 - g = f + 1 := by omega
  have i2 : xs.length + 2 * d - 1 - (g + 1) = f := by omega
  rw [hk, i1] at k1
  rw [hk, hk, i1, i2] at k2
  rw [hk, i2] at k3
  rw [hk, i2] at g3
  have same : W (kx d xs) t f d = W (kx d xs) t h d := by
    by_cases e : f = h
    · rw [e]
    have qlo := Q.lo
    have qlt := Q.lt
    have g4 : kx d xs f < t := by
      rcases g3 with g3 | g3
      · grind
      · by_cases c : kx d xs f < t
        · exact c
        · have := mono (f + 1) h (by omega)
          grind
    have fh : f < h := by
      by_cases c : f < h
      · exact c
      · have := mono (h + 1) f (by omega)
        rcases h3 with h3 | h3
        · grind
        · omega
    have a1 := mono (f + 1) h (by omega)
    have et : kx d xs h = t := by grind
    have u4 : h - f ≤ d := by
      by_cases c : h - f ≤ d
      · exact c
      · have m1 := M.mu (f + 1 - d) (by omega) (by omega)
        have n1 : kx d xs (f + 1) = xs.getD (f + 1 - d) 0 := by unfold kx; congr 1; omega
        have n2 : kx d xs (f + 1 + d) = xs.getD (f + 1 - d + d) 0 := by unfold kx; congr 1; omega
        rw [← n1, ← n2] at m1
        have := mono (f + 1 + d) h (by omega)
        grind
    have ef : f + (h - f) = h := by omega
    have := W_both (k := kx d xs) (t := t) (h := f) (u := h - f) (by grind) (by rw [ef]; grind) (fun j j1 j2 => by
      have := mono (f + 1) (f + j) (by omega)
      have := mono (f + j) h (by omega)
      grind) d u4
    rw [ef] at this
    funext i
    exact this i
  unfold Vx
  rw [List.length_reverse, ← sumTo_rev hs.length fun i => hs.getD i 0 * W (kx d xs) t h d i]
  refine sumTo_congr fun i hi => ?_
  rw [rev_getD hi]
  have ek : kx d (backL xs) = fun j => -kx d xs (xs.length + 2 * d - 1 - j) := funext hk
  have eg : g = xs.length + 2 * d - 2 - f := by omega
  have ei : xs.length + 2 * d - 2 - d - i = hs.length - 1 - i := by omega
  rw [ek, eg, W_turn (by omega) d i (by omega), same, ei]
end
/-! ### handles led over; between the handles; the line -/
section
variable {d : Nat} {xs hs : List Rat} (M : Mx d xs) {t : Rat} {h : Nat} (Q : Kn (kx d xs) (xs.length + 2 * d) t h) (h1 : d ≤ h) (h2 : h + 2 ≤ d + xs.length) (hl : hs.length + 1 = d + xs.length)
include M Q h1 h2 hl
theorem W_one : sumTo (W (kx d xs) t h d) hs.length = 1 := sum_one Q d hs.length h1 (by have := M.l2; omega) (by have := M.l2; omega)
theorem V_high {a u : Rat} : Vx d xs (hs.map fun x => x * a + u) t h = Vx d xs hs t h * a + u := by
  have w1 := W_one M Q h1 h2 hl
  unfold Vx
  rw [List.length_map]
  have e : sumTo (fun i => (hs.map fun x => x * a + u).getD i 0 * W (kx d xs) t h d i) hs.length = sumTo (fun i => hs.getD i 0 * W (kx d xs) t h d i * a + W (kx d xs) t h d i * u) hs.length := sumTo_congr fun i hi => by
    rw [getD_map hi]
    grind
  rw [e, sumTo_add, sumTo_mul, sumTo_mul, w1]
  grind
theorem sumTo_le {f g : Nat → Rat} : ∀ {m : Nat}, (∀ i, i < m → f i ≤ g i) → sumTo f m ≤ sumTo g m
  | 0, _ => by
    show (0 : Rat) ≤ 0
    grind
  | m + 1, z => by
    show sumTo f m + f m ≤ sumTo g m + g m
    have a := sumTo_le (f := f) (g := g) (m := m) fun i hi => z i (by omega)
    have b := z m (by omega)
    grind
theorem V_ge {lo : Rat} (z : ∀ x ∈ hs, lo ≤ x) : lo ≤ Vx d xs hs t h := by
  have w1 := W_one M Q h1 h2 hl
  have l2 := M.l2
  have a := sumTo_le M Q h1 h2 hl (f := fun i => W (kx d xs) t h d i * lo) (g := fun i => hs.getD i 0 * W (kx d xs) t h d i) (m := hs.length) fun i hi => by
    have w := W_nn Q d i (by omega)
    have hx : lo ≤ hs.getD i 0 := z _ (by rw [List.getD_eq_getElem?_getD, List.getElem?_eq_getElem hi]; exact List.getElem_mem hi)
    have := Rat.mul_nonneg (a := hs.getD i 0 - lo) (b := W (kx d xs) t h d i) (by grind) w
    grind
  rw [sumTo_mul, w1] at a
  unfold Vx
  grind
theorem V_le {hi : Rat} (z : ∀ x ∈ hs, x ≤ hi) : Vx d xs hs t h ≤ hi := by
  have w1 := W_one M Q h1 h2 hl
  have l2 := M.l2
  have a := sumTo_le M Q h1 h2 hl (f := fun i => hs.getD i 0 * W (kx d xs) t h d i) (g := fun i => W (kx d xs) t h d i * hi) (m := hs.length) fun i hi' => by
    have w := W_nn Q d i (by omega)
    have hx : hs.getD i 0 ≤ hi := z _ (by rw [List.getD_eq_getElem?_getD, List.getElem?_eq_getElem hi']; exact List.getElem_mem hi')
    have := Rat.mul_nonneg (a := hi - hs.getD i 0) (b := W (kx d xs) t h d i) (by grind) w
    grind
  rw [sumTo_mul, w1] at a
  unfold Vx
  grind
theorem V_line (d0 : 0 < d) (z : ∀ i, i < hs.length → hs.getD i 0 = inn (kx d xs) d i / (d : Rat)) : Vx d xs hs t h = t := by
  have l2 := M.l2
  have a := line_sum Q d hs.length h1 (by omega) (by omega)
  have dp : (0 : Rat) < (d : Rat) := natCast_pos (by omega)
  unfold Vx
  have e : sumTo (fun i => hs.getD i 0 * W (kx d xs) t h d i) hs.length = sumTo (fun i => inn (kx d xs) d i * W (kx d xs) t h d i * (1 / (d : Rat))) hs.length := sumTo_congr fun i hi => by
    rw [z i hi]
    grind
  rw [e, sumTo_mul, a]
  generalize (d : Rat) = c at *
  grind
end
end HB
namespace HB
open PySem PySem.Spec L2 AL
open PyProof.Rows hiding St
abbrev xz (zs : List Int) : List Rat := zs.map (fx 6)
theorem qz_x (zs : List Int) : qz zs = qx (xz zs) := by
  show zs.map z6 = (zs.map (fx 6)).map qOf
  rw [List.map_map]
  rfl
theorem xz_getD {zs : List Int} (i : Nat) : (xz zs).getD i 0 = fx 6 (zs.getD i 0) := by
  rw [List.getD_eq_getElem?_getD, List.getD_eq_getElem?_getD, List.getElem?_map]
  cases zs[i]? with
  | none =>
    show (0 : Rat) = fx 6 0
    decide +kernel
  | some x => rfl
section
variable {d : Nat} {zs : List Int} (M : Mks d zs)
include M
theorem Mks.mx : Mx d (xz zs) := by
  have e : (xz zs).length = zs.length := List.length_map _
  have lt : ∀ {a b : Int}, a < b → fx 6 a < fx 6 b := fun h => (fx_lt (by decide)).mpr h
  refine ⟨by rw [e]; exact M.l2, by rw [e]; exact M.l9, M.d4, fun i j h1 h2 => ?_, ?_, ?_, fun i h1 h2 => ?_, fun i hi => ?_⟩
  · rw [xz_getD, xz_getD]
    exact (fx_le (by decide)).mpr (M.so i j h1 (by omega))
  · rw [xz_getD, xz_getD]
    exact lt M.fi
  · rw [e, xz_getD, xz_getD]
    exact lt M.la
  · rw [xz_getD, xz_getD]
    exact lt (M.mu i h1 (by omega))
  · rw [xz_getD]
    exact (b6 (M.bd i (by omega))).mono (by decide)
theorem kx_xz (i : Nat) : kx d (xz zs) i = fx 6 (kz d zs i) := by
  unfold kx kz
  rw [List.length_map, xz_getD]
theorem kb_xz {m : Nat} (m0 : m ≠ 0) (m6 : m ≤ 6) {t : Rat} (T : TOk zs m t) : Kb 11 (kx d (xz zs)) ((xz zs).length + 2 * d) t ∧ (xz zs).getD 0 0 ≤ t ∧ t ≤ (xz zs).getD ((xz zs).length - 1) 0 ∧ Bd 11 t := by
  obtain ⟨y, rfl, y0, y1⟩ := T
  have B := kb_ok M m0 m6 y0 y1
  have yb := y_bd M m0 m6 y0 y1
  have hN : 6 * m ≠ 0 := by omega
  have p11 : (2 : Nat) ^ 11 = 2048 := by decide
  have ek : kx d (xz zs) = kf d zs m := by
    funext i
    rw [kx_xz M, kf_eq m0]
  have h0 : fx 6 (zs.getD 0 0) = fx (6 * m) (zs.getD 0 0 * (m : Nat)) := (fx_mul m0 _).symm
  have h1 : fx 6 (zs.getD (zs.length - 1) 0) = fx (6 * m) (zs.getD (zs.length - 1) 0 * (m : Nat)) := (fx_mul m0 _).symm
  rw [List.length_map, ek, xz_getD, xz_getD, h0, h1]
  exact ⟨B, (fx_le hN).mpr y0, (fx_le hN).mpr y1, fx_bd hN (by omega) (by omega)⟩
theorem k12_math {hs : List Rat} {t a b u : Rat} (T : TOk zs 3 t) (hl : hs.length + 1 = d + zs.length) (hb : ∀ x ∈ hs, Bd 10 x) (ha : 0 < a) (a3 : Bd 3 a) (b10 : Bd 10 b) (u10 : Bd 10 u) :
    ∃ v, Bd 2300 v ∧ valueO d (qz zs) (hs.map qOf) (qOf t) = some (qOf v)
    ∧ valueO d (qx (ledL a b (xz zs))) (hs.map qOf) (qOf (t * a + b)) = some (qOf v)
    ∧ valueO d (qx (backL (xz zs))) (hs.reverse.map qOf) (qOf (0 - t)) = some (qOf v)
    ∧ valueO d (qz zs) ((hs.map fun x => x * a + u).map qOf) (qOf t) = some (qOf (v * a + u))
    ∧ (∀ lo, (∀ x ∈ hs, lo ≤ x) → lo ≤ v) ∧ (∀ hi, (∀ x ∈ hs, x ≤ hi) → v ≤ hi)
    ∧ (0 < d → valueO d (qz zs) (((List.range hs.length).map fun i => homeR d zs i).map qOf) (qOf t) = some (qOf t)) := by
  have X := M.mx
  have l2 := M.l2
  have d4 := M.d4
  have e : (xz zs).length = zs.length := List.length_map _
  obtain ⟨B, t0, t1, t11⟩ := kb_xz M (by decide) (by decide) T
  obtain ⟨h, hw, Q, h1, h2, h3⟩ := weights_x X B (by decide) (Nat.le_trans (W_b4 d4) (by decide)) t0 t1
  have hl' : hs.length + 1 = d + (xz zs).length := by omega
  have v0 := value_x X B Q hw hl' hb (by decide) (W_b4 d4)
  have lb : ∀ i, i < (xz zs).length → Bd 30 ((xz zs).getD i 0 * a + b) := fun i hi => by
    rw [xz_getD]
    exact (((b6 (M.bd i (by omega))).mul a3).add b10).mono (by decide)
  have tb : Bd 30 (t * a + b) := ((t11.mul a3).add b10).mono (by decide)
  have XL := mx_led X ha lb
  have BL := kb_led X ha lb B tb
  have eL : (ledL a b (xz zs)).length = (xz zs).length := List.length_map _
  obtain ⟨g, gw, GQ, g1, g2, g3⟩ := weights_x XL BL (by decide) (Nat.le_trans (W_b4 d4) (by decide)) (by rw [show (ledL a b (xz zs)).getD 0 0 = (xz zs).getD 0 0 * a + b from getD_map (by omega)]; exact led_le ha t0) (by rw [eL, show (ledL a b (xz zs)).getD ((xz zs).length - 1) 0 = (xz zs).getD ((xz zs).length - 1) 0 * a + b from getD_map (by omega)]; exact led_le ha t1)
  rw [eL] at g2 g3
  have hg : g = h := by
    have glo := GQ.lo
    have kl := kx_led X ha lb
    rw [kl] at glo
    refine h_uniq (k := kx d (xz zs)) (n := d + (xz zs).length) (t := t) (last := 0) (fun i j hij => kx_mono X hij) ?_ ?_ g2 Q.lo h3 h2
    · by_cases c : kx d (xz zs) g ≤ t
      · exact c
      · have := led_lt (b := b) ha (x := t) (y := kx d (xz zs) g) (by grind)
        grind
    · rcases g3 with g3 | g3
      · rw [kl] at g3
        exact .inl (led_lt' ha g3)
      · exact .inr g3
  subst hg
  have v1 := value_x XL BL GQ gw (by omega) hb (by decide) (W_b4 d4)
  rw [V_led X ha lb] at v1
  have XB := mx_back X
  have BB := kb_back X B
  have eB := back_len (xz zs)
  have en : 0 - t = -t := by grind
  obtain ⟨f, fw, FQ, f1, f2, f3⟩ := weights_x XB BB (by decide) (Nat.le_trans (W_b4 d4) (by decide)) (by
      rw [back_getD (by omega)]
      have e2 : (xz zs).length - 1 - 0 = (xz zs).length - 1 := by omega
      rw [e2]
      grind) (by
      rw [eB, back_getD (by omega)]
      have e2 : (xz zs).length - 1 - ((xz zs).length - 1) = 0 := by omega
      rw [e2]
      grind)
  have v2 := value_x XB BB FQ fw (hs := hs.reverse) (by rw [List.length_reverse]; omega) (fun x hx => hb x (List.mem_reverse.mp hx)) (by decide) (W_b4 d4)
  rw [V_back X Q h1 h2 h3 FQ f1 f2 f3 hl'] at v2
  have v3 := value_x X B Q hw (hs := hs.map fun x => x * a + u) (b := 30) (by rw [List.length_map]; exact hl') (fun x hx => by
    obtain ⟨x', hx', rfl⟩ := List.mem_map.mp hx
    exact (((hb x' hx').mul a3).add u10).mono (by decide)) (by decide) (W_b4 d4)
  rw [V_high X Q h1 h2 hl'] at v3
  refine ⟨Vx d (xz zs) hs t g, v0.2.mono (by decide), ?_, v1.1, ?_, ?_, fun lo z => V_ge X Q h1 h2 hl' z, fun hi z => V_le X Q h1 h2 hl' z, fun d0 => ?_⟩
  · rw [qz_x]
    exact v0.1
  · rw [en]
    exact v2.1
  · rw [qz_x]
    exact v3.1
  · have eh : ∀ i, homeR d zs i = inn (kx d (xz zs)) d i / (d : Rat) := fun i => by
      unfold homeR segK inn
      rw [if_neg (by omega), sumTo_q]
      have e1 : fx 1 (d : Nat) = (d : Rat) := by
        show (((d : Nat) : Int) : Rat) / ((1 : Nat) : Rat) = (d : Rat)
        have a1 : (((d : Nat) : Int) : Rat) = (d : Rat) := rfl
        have a2 : ((1 : Nat) : Rat) = 1 := rfl
        rw [a1, a2]
        generalize (d : Rat) = c
        grind
      rw [e1]
      congr 1
      refine sumTo_congr fun j _ => ?_
      rw [kx_xz M]
    have bh : ∀ x ∈ (List.range hs.length).map fun i => homeR d zs i, Bd 80 x := fun x hx => by
      obtain ⟨i, hi, rfl⟩ := List.mem_map.mp hx
      unfold homeR
      rw [if_neg (by omega)]
      have b1 : Bd (1 + 13 * (segK d zs i).length) (sumQ (segK d zs i)) := bd_sumQ (segK d zs i) 0 1 bd0 (seg_bd M i)
      rw [seg_len (d := d) (zs := zs) i] at b1
      exact (b1.div (fx1_bd d4) (fx1_pos d0)).mono (by omega)
    have v4 := value_x X B Q hw (hs := (List.range hs.length).map fun i => homeR d zs i) (by rw [List.length_map, List.length_range]; exact hl') bh (by decide) (W_b4 d4)
    rw [V_line X Q h1 h2 (by rw [List.length_map, List.length_range]; exact hl') d0 (fun i hi => by
      rw [List.length_map, List.length_range] at hi
      rw [List.getD_eq_getElem?_getD, range_map_get hi]
      exact eh i)] at v4
    rw [qz_x]
    exact v4.1
end
end HB
namespace HB
open PySem PySem.Spec L2 AL
open PyProof.Rows hiding St
/-- a value of a curve, with all that is known of it -/
structure Wv (d : Nat) (xs hs : List Rat) (t v : Rat) (h q b : Nat) : Prop where
  M : Mx d xs
  B : Kb q (kx d xs) (xs.length + 2 * d) t
  q1 : q ≤ 100
  q2 : bw q d ≤ 361
  Q : Kn (kx d xs) (xs.length + 2 * d) t h
  h1 : d ≤ h
  h2 : h + 2 ≤ d + xs.length
  h3 : t < kx d xs (h + 1) ∨ h + 2 = d + xs.length
  hl : hs.length + 1 = d + xs.length
  hb : ∀ x ∈ hs, Bd b x
  b8 : b ≤ 80
  ev : v = Vx d xs hs t h
  va : valueO d (qx xs) (hs.map qOf) (qOf t) = some (qOf v)
  vb : Bd (1 + 5 * (b + 362)) v
theorem wv_of {d : Nat} {xs hs : List Rat} {t : Rat} {q b : Nat} (M : Mx d xs) (B : Kb q (kx d xs) (xs.length + 2 * d) t) (t0 : xs.getD 0 0 ≤ t) (t1 : t ≤ xs.getD (xs.length - 1) 0) (q1 : q ≤ 100) (q2 : bw q d ≤ 361) (hl : hs.length + 1 = d + xs.length) (hb : ∀ x ∈ hs, Bd b x) (b8 : b ≤ 80) :
    ∃ v h, Wv d xs hs t v h q b := by
  obtain ⟨h, hw, Q, h1, h2, h3⟩ := weights_x M B (by omega) (by omega) t0 t1
  have := value_x M B Q hw hl hb b8 q2
  exact ⟨_, h, M, B, q1, q2, Q, h1, h2, h3, hl, hb, b8, rfl, this.1, this.2⟩
theorem sumTo_one {f : Nat → Rat} {j : Nat} : ∀ {m : Nat}, (∀ i, i < m → i ≠ j → f i = 0) → j < m → sumTo f m = f j
  | 0, _, h => by omega
  | m + 1, z, h => by
    show sumTo f m + f m = f j
    by_cases e : j = m
    · subst e
      have : sumTo f j = 0 := by
        have e2 : sumTo f j = sumTo (fun _ => (0 : Rat) * 0) j := sumTo_congr fun i hi => by
          rw [z i (by omega) (by omega)]
          grind
        rw [e2, sumTo_mul (fun _ => (0 : Rat)) 0]
        grind
      rw [this]
      grind
    · rw [sumTo_one (m := m) (fun i hi hj => z i (by omega) hj) (by omega), z m (by omega) (by omega)]
      grind
section
variable {d : Nat} {xs hs : List Rat} {t v : Rat} {h q b : Nat} (V : Wv d xs hs t v h q b)
include V
/-- at the first mark it is the first handle -/
theorem Wv.first (e : t = xs.getD 0 0) : v = hs.getD 0 0 := by
  have M := V.M
  have l2 := M.l2
  have hl := V.hl
  have mono : ∀ i j, i ≤ j → kx d xs i ≤ kx d xs j := fun i j hij => kx_mono M hij
  have k0 : ∀ i, i ≤ d → kx d xs i = t := fun i hi => by
    rw [e]
    unfold kx
    congr 1
    omega
  have k1 : t < kx d xs (d + 1) := by
    have e1 : kx d xs (d + 1) = xs.getD 1 0 := by unfold kx; congr 1; omega
    rw [e, e1]
    exact M.fi
  have hd : h = d := by
    have := V.h1
    by_cases c : h = d
    · exact c
    · have := mono (d + 1) h (by omega)
      have := V.Q.lo
      grind
  have w := W_right (k := kx d xs) (t := t) (h := 0) (u := d) (by rw [Nat.zero_add]; exact k1) (fun j j1 j2 => by rw [Nat.zero_add]; exact k0 j j2) d (Nat.le_refl _)
  rw [Nat.zero_add] at w
  rw [V.ev]
  unfold Vx
  rw [hd, sumTo_one (j := 0) (fun i hi hne => by rw [w, if_neg (by omega)]; grind) (by omega), w, if_pos (by omega)]
  grind
/-- at the last mark it is the last handle -/
theorem Wv.last (e : t = xs.getD (xs.length - 1) 0) : v = hs.getD (hs.length - 1) 0 := by
  have M := V.M
  have l2 := M.l2
  have hl := V.hl
  have mono : ∀ i j, i ≤ j → kx d xs i ≤ kx d xs j := fun i j hij => kx_mono M hij
  have k0 : ∀ i, d + xs.length - 1 ≤ i → kx d xs i = t := fun i hi => by
    rw [e]
    unfold kx
    congr 1
    omega
  have hh : h + 2 = d + xs.length := by
    rcases V.h3 with c | c
    · have := mono (h + 1) (d + xs.length) (by have := V.h2; omega)
      rw [k0 (d + xs.length) (by omega)] at this
      grind
    · exact c
  have lo : kx d xs h < t := by
    have := V.Q.lt
    rw [k0 (h + 1) (by omega)] at this
    exact this
  have w := W_left (k := kx d xs) (t := t) (h := h) (u := d) lo (fun j j1 j2 => k0 _ (by omega)) d (Nat.le_refl _)
  rw [V.ev]
  unfold Vx
  have ej : hs.length - 1 = h := by omega
  rw [ej, sumTo_one (j := h) (fun i hi hne => by rw [w, if_neg hne]; grind) (by omega), w, if_pos rfl]
  grind
end
/-! ### two marks alone -/
theorem mx_two {d : Nat} {a b : Rat} (d4 : d ≤ 4) (h : a < b) (ha : Bd 30 a) (hb : Bd 30 b) : Mx d [a, b] where
  l2 := Nat.le_refl _
  l9 := by show 2 ≤ 9; decide
  d4 := d4
  so := fun i j hij hj => by
    have hj : j < 2 := hj
    have : i = 0 ∧ j = 0 ∨ i = 0 ∧ j = 1 ∨ i = 1 ∧ j = 1 := by omega
    rcases this with ⟨rfl, rfl⟩ | ⟨rfl, rfl⟩ | ⟨rfl, rfl⟩
    · show a ≤ a
      grind
    · show a ≤ b
      grind
    · show b ≤ b
      grind
  fi := h
  la := h
  mu := fun i h1 h2 => by
    have : i + d + 1 < 2 := h2
    omega
  bd := fun i hi => by
    have : i < 2 := hi
    have : i = 0 ∨ i = 1 := by omega
    rcases this with rfl | rfl
    · exact ha
    · exact hb
theorem kx_two {d : Nat} {a b : Rat} (i : Nat) : kx d [a, b] i = if i ≤ d then a else b := by
  unfold kx
  show ([a, b] : List Rat).getD (min (i - d) 1) 0 = _
  by_cases c : i ≤ d
  · have : min (i - d) 1 = 0 := by omega
    rw [this, if_pos c]
    rfl
  · have : min (i - d) 1 = 1 := by omega
    rw [this, if_neg c]
    rfl
theorem kb_two {d q : Nat} {a b t : Rat} (h : a < b) (ha : Bd 30 a) (hb : Bd 30 b) (ht : Bd 30 t) (h1 : Bd q ((t - a) / (b - a))) (h2 : Bd q ((b - t) / (b - a))) : Kb q (kx d [a, b]) (([a, b] : List Rat).length + 2 * d) t := by
  have two : ∀ i j, kx d [a, b] j < kx d [a, b] i → kx d [a, b] j = a ∧ kx d [a, b] i = b := fun i j hl => by
    rw [kx_two, kx_two] at hl
    rw [kx_two, kx_two]
    by_cases c : i ≤ d <;> by_cases c2 : j ≤ d
    · rw [if_pos c, if_pos c2] at hl; grind
    · rw [if_pos c, if_neg c2] at hl; grind
    · rw [if_neg c, if_pos c2]; exact ⟨rfl, rfl⟩
    · rw [if_neg c, if_neg c2] at hl; grind
  refine ⟨fun i _ => ?_, ht, fun i j _ _ hl => ?_, fun i j _ _ hl => ?_⟩
  · rw [kx_two]
    by_cases c : i ≤ d
    · rw [if_pos c]; exact ha
    · rw [if_neg c]; exact hb
  · obtain ⟨e1, e2⟩ := two i j hl
    rw [e1, e2]
    exact h1
  · obtain ⟨e1, e2⟩ := two i j hl
    rw [e1, e2]
    exact h2
end HB
namespace AL
open PySem PySem.Spec L2
open PyProof.Rows hiding St
section
variable {X : Cx} {ρ : Rho} {m : Mem} {E : EndsA}
theorem set_self {α : Type} : ∀ {l : List α} {i : Nat} {x : α}, l[i]? = some x → l.set i x = l
  | [], _, _, h => by cases h
  | y :: l, 0, x, h => by
    cases h
    rfl
  | y :: l, i + 1, x, h => by
    show y :: l.set i x = y :: l
    rw [set_self (l := l) (i := i) h]
/-- a list that is changed no more -/
theorem wss_freeze {sts : List Stmt} (j : Nat) {q : Addr} {As : List AV} {m6 m7 : Mem} (hm : m = m6 ++ (q, .l As) :: m7) (hj : ρ[j]? = some (some (val (.ref q)))) (h : WSs X sts (ρ.set j (some (lst As))) (m6 ++ m7) E) : WSs X sts ρ m E := by
  subst hm
  intro fr σ H o D g
  have sub : ∀ x, x ∈ Ms fr (m6 ++ m7) → x ∈ Ms fr (m6 ++ (q, Cell.l As) :: m7) := fun x hx => by
    unfold Ms at *
    simp only [List.map_append, List.map_cons, List.mem_append, List.mem_cons] at *
    rcases hx with hx | hx | hx
    · exact .inl hx
    · exact .inr (.inl hx)
    · exact .inr (.inr (.inr hx))
  have nd := o.mem.nd
  have xs : Ext (Ms fr (m6 ++ (q, Cell.l As) :: m7)) H (Ms fr (m6 ++ m7)) H := .same sub
  have nq : q ∉ Ms fr (m6 ++ m7) := fun hx => by
    unfold Ms at nd hx
    rw [List.map_append, List.map_cons, ← List.append_assoc] at nd
    rw [List.map_append, ← List.append_assoc] at hx
    have nd2 := List.nodup_append.mp nd
    rcases List.mem_append.mp hx with hx | hx
    · exact nd2.2.2 q hx q List.mem_cons_self rfl
    · exact (List.nodup_cons.mp nd2.2.1).1 hx
  obtain ⟨u, hu, c⟩ := o.mem.at_ q (.l As) (List.mem_append_right _ List.mem_cons_self)
  obtain ⟨vs, rfl, rv⟩ := c.lst
  obtain ⟨v, hv, rvv⟩ := EnvV.get o.env hj
  have ev : v = .ref q := rvv
  subst ev
  have lv : (lst As).p X.K (Ms fr (m6 ++ m7)) H (.ref q) := ⟨q, vs, rfl, ⟨hu, nq⟩, rv.st xs⟩
  have env2 := (o.env.st xs).set lv j
  rw [set_self hv] at env2
  have mem2 : MemV X.K fr (m6 ++ m7) H := by
    refine ⟨o.mem.frm, fun b cc hb => ?_, ?_⟩
    · have hb2 : (b, cc) ∈ m6 ++ (q, Cell.l As) :: m7 := by
        rcases List.mem_append.mp hb with hb | hb
        · exact List.mem_append_left _ hb
        · exact List.mem_append_right _ (List.mem_cons_of_mem _ hb)
      obtain ⟨u, e, r⟩ := o.mem.at_ b cc hb2
      exact ⟨u, e, r.st xs⟩
    · unfold Ms at nd ⊢
      rw [List.map_append, List.map_cons] at nd
      rw [List.map_append]
      exact nd.sublist (List.Sublist.append (List.Sublist.refl _) (List.Sublist.append (List.Sublist.refl _) (List.sublist_cons_self _ _)))
  exact h fr σ H ⟨env2, mem2⟩ D ⟨fun ρ' m' σ' H' k x o' => g.nx ρ' m' σ' H' k (xs.trans x) o', fun A m' v' H' k x o' r => g.rt A m' v' H' k (xs.trans x) o' r, fun ρ' m' σ' H' k x o' => g.bk ρ' m' σ' H' k (xs.trans x) o', fun ρ' m' σ' H' k x o' => g.ct ρ' m' σ' H' k (xs.trans x) o'⟩
end
end AL
namespace HB
open PySem PySem.Spec L2 AL
open PyProof.Rows hiding St
section
variable {P : Program} {w : World} {K : PySem.W.Frag} {mg : Str → Option Value} {base : Heap} (Z : Blt mg) {C : Addr}
/-! ### a time led over -/
def C_led : CT := fun As m Kt => ∃ x b c : Rat, As = [rv x, rv b, rv c] ∧ Bd 1000 x ∧ Bd 1000 b ∧ Bd 1000 c ∧ Kt (rv (x * c + b)) m
end
end HB
namespace HB
open PySem PySem.Spec L2 AL
open PyProof.Rows hiding St
theorem qv_rv (l : List Rat) : (qx l).map qv = l.map rv := by
  rw [List.map_map]
  rfl
theorem num_zero {b : Rat} : (qOf b).1 = 0 ↔ b = 0 := by
  constructor
  · intro h
    exact Rat.num_eq_zero.mp h
  · intro h
    rw [h]
    rfl
theorem div_zero_mul {a c : Rat} : a / 0 * c = 0 := by
  rw [div_zero', Rat.zero_mul]
theorem eqv_int {i j : Int} : PyData.eqv (.int i) (.int j) = (i == j) := rfl
section
variable {P : Program} {w : World} {K : PySem.W.Frag} {mg : Str → Option Value} {base : Heap} (Z : Blt mg) {C : Addr}
/-! ### knots, of any marks -/
def C_lknotsX : CT := fun As m Kt => ∃ (d : Nat) (qs : List Q2), As = [AL.int d, lst (qs.map qv)] ∧ qs ≠ [] ∧ qs.length + 2 * d ≤ 100 ∧ Kt (lst ((knotsM d qs).map qv)) m
include Z in
theorem F_law_knotsX {f : Addr} {fd : FuncData} (F : Fun K "_law_knots" "_law_knots" s_law_knots f fd) (hm : mg "_law_knots" = some (.ref f)) (hb : Binds K fd ["_law_degree", "_law_marks_here"] []) : FnC P w K mg base 1 "_law_knots" C_lknotsX := by
  refine fnC F sc_law_knots hm hb (fun As m Kt ⟨d, qs, h, _⟩ => by rw [h]; rfl) fun X a As m Kt ⟨d, qs, e1, hne, h2, q⟩ => ?_
  subst e1
  refine wss_cons ?_
  refine ws_ret ?_
  refine we_lcat ?_
  refine we_lcat ?_
  refine we_lrep ?_
  refine WN.we (wn_list ?_)
  refine wa_cons ?_
  refine we_ix ?_
  refine we_name a 1 rfl (.inl rfl) rfl ?_
  refine we_int ?_
  refine ⟨_, _, _, isSq_lst, rfl, at_first hne, ?_⟩
  refine wa_nil ?_
  refine ⟨(by decide : 1 ≤ 1000), ?_⟩
  refine we_name a 0 rfl (.inl rfl) rfl ?_
  refine ⟨_, d, isLs_lst, rfl, by omega, by omega, by show 1 * (d : Int).toNat ≤ 1000; omega, ?_⟩
  refine b_listOf a Z rfl ?_
  refine wa_cons ?_
  refine we_name a 1 rfl (.inl rfl) rfl ?_
  refine wa_nil ?_
  refine ⟨_, _, rfl, isSq_lst, ?_⟩
  refine ⟨_, _, isLs_lst, isLs_lst, by rw [rep_flat, List.length_replicate, List.length_map]; omega, ?_⟩
  refine we_lrep ?_
  refine WN.we (wn_list ?_)
  refine wa_cons ?_
  refine we_ix ?_
  refine we_name a 1 rfl (.inl rfl) rfl ?_
  refine we_neg ?_
  refine we_int ?_
  refine ⟨_, rfl, ?_⟩
  refine ⟨_, _, _, isSq_lst, rfl, at_last hne, ?_⟩
  refine wa_nil ?_
  refine ⟨(by decide : 1 ≤ 1000), ?_⟩
  refine we_name a 0 rfl (.inl rfl) rfl ?_
  refine ⟨_, d, isLs_lst, rfl, by omega, by omega, by show 1 * (d : Int).toNat ≤ 1000; omega, ?_⟩
  refine ⟨_, _, isLs_lst, isLs_lst, by rw [rep_flat, rep_flat, List.length_append, List.length_replicate, List.length_replicate, List.length_map]; omega, ?_⟩
  have e : List.replicate (d : Int).toNat (qv (qs.headD Q0)) ++ qs.map qv ++ List.replicate (d : Int).toNat (qv (qs.getLastD Q0)) = (knotsM d qs).map qv := by
    unfold knotsM
    rw [List.map_append, List.map_append, List.map_replicate, List.map_replicate, Int.toNat_natCast]
  rw [rep_flat, rep_flat, e]
  exact bodyE.ret q
/-! ### a part of a weight -/
def C_part : CT := fun As m Kt => ∃ x y c : Rat, As = [rv x, rv y, rv c] ∧ Bd 1000 x ∧ Bd 1000 y ∧ 0 ≤ y ∧ Bd 1000 c ∧ Kt (rv (x / y * c)) m
abbrev s_law_part : Stmt := topS 60
abbrev N_law_part : List Str := ["_law_top", "_law_bottom", "_law_times_it"]
theorem sc_law_part : FnScope N_law_part ["_law_top", "_law_bottom", "_law_times_it"] (defScope s_law_part) := ⟨rfl, rfl, rfl, by decide +kernel, rfl, by decide +kernel, by decide +kernel⟩
theorem F_law_part (FL : FnC P w K mg base 2 "_law_mul" (C_r2 fun x y => x * y)) (FV : FnC P w K mg base 2 "_law_div" C_rdiv) {f : Addr} {fd : FuncData} (F : Fun K "_law_part" "_law_part" s_law_part f fd) (hm : mg "_law_part" = some (.ref f)) (hb : Binds K fd ["_law_top", "_law_bottom", "_law_times_it"] []) : FnC P w K mg base 3 "_law_part" C_part := by
  refine fnC F sc_law_part hm hb (fun As m Kt ⟨x, y, c, h, _⟩ => by rw [h]; rfl) fun X a As m Kt ⟨x, y, c, e1, hx, hy, y0, hc, q⟩ => ?_
  subst e1
  refine wss_cons ?_
  refine ws_ret ?_
  refine we_ifexp ?_
  refine wt_cmp (op_eqD (hu_at a)) abs_eqD rfl ?_
  refine we_ix ?_
  refine we_name a 1 rfl (.inl rfl) rfl ?_
  refine we_int ?_
  refine ⟨_, _, _, isSq_tup, rfl, rfl, ?_⟩
  refine we_int ?_
  refine ⟨.int _, .int 0, isDat_int, isDat_int, rfl, rfl, _, rfl, ?_⟩
  refine br (fun h1 => ?_) (fun h1 => ?_)
  · have h1 : y = 0 := num_zero.mp (eq_of_beq h1)
    refine we_tup ?_
    refine wa_cons ?_
    refine we_int ?_
    refine wa_cons ?_
    refine we_int ?_
    refine wa_nil ?_
    refine ⟨(by decide : 2 ≤ 1000), ?_⟩
    subst h1
    rw [div_zero_mul] at q
    exact bodyE.ret q
  · have h1 : y ≠ 0 := fun z => by
      rw [z] at h1
      exact absurd h1 (by decide)
    have yp : 0 < y := by grind
    refine we_call a FL (by decide) rfl ?_
    refine wa_cons ?_
    refine we_call a FV (by decide) rfl ?_
    refine wa_cons ?_
    refine we_name a 0 rfl (.inl rfl) rfl ?_
    refine wa_cons ?_
    refine we_name a 1 rfl (.inl rfl) rfl ?_
    refine wa_nil ?_
    refine ⟨[], m, rfl, x, y, rfl, hx.mono (by decide), hy.mono (by decide), yp, ?_⟩
    refine wa_cons ?_
    refine we_name a 2 rfl (.inl rfl) rfl ?_
    refine wa_nil ?_
    refine ⟨[], m, rfl, x / y, c, rfl, (hx.div hy yp).mono (by decide), hc.mono (by decide), ?_⟩
    exact bodyE.ret q
end
end HB
namespace HB
open PySem PySem.Spec L2 AL
open PyProof.Rows hiding St
section
variable {k : Nat → Rat} {n : Nat} {t : Rat} {h : Nat} (Q : Kn k n t h) {b : Nat} (B : Kb b k n t)
include Q B
theorem up_bd {s i : Nat} (hi : i + s + 1 < n) : Bd (bw b s + b) ((t - k i) / (k (i + s + 1) - k i) * W k t h s i) := by
  rw [Rat.mul_comm]
  by_cases e : W k t h s i = 0
  · rw [e, Rat.zero_mul]
    exact bd0.mono (by have := bw_pos b s; omega)
  · obtain ⟨e1, e2⟩ := W_support s i e
    have := gap_pos Q e1 (j := i + s + 1) (by omega) (by omega)
    exact (W_bd Q B s i (by omega)).mul (B.q1 _ _ (by omega) (by omega) (by grind))
theorem down_bd {s i : Nat} (hi : i + s + 2 < n) : Bd (bw b s + b) ((k (i + s + 2) - t) / (k (i + s + 2) - k (i + 1)) * W k t h s (i + 1)) := by
  rw [Rat.mul_comm]
  by_cases e : W k t h s (i + 1) = 0
  · rw [e, Rat.zero_mul]
    exact bd0.mono (by have := bw_pos b s; omega)
  · obtain ⟨e1, e2⟩ := W_support s (i + 1) e
    have := gap_pos Q e1 (j := i + s + 2) (by omega) (by omega)
    exact (W_bd Q B s (i + 1) (by omega)).mul (B.q2 _ _ (by omega) (by omega) (by grind))
end
theorem W_next {k : Nat → Rat} {t : Rat} {h s i : Nat} : (t - k i) / (k (i + s + 1) - k i) * W k t h s i + (k (i + s + 2) - t) / (k (i + s + 2) - k (i + 1)) * W k t h s (i + 1) = W k t h (s + 1) i := by
  show _ = W k t h s i * ((t - k i) / (k (i + s + 1) - k i)) + W k t h s (i + 1) * ((k (i + s + 2) - t) / (k (i + s + 2) - k (i + 1)))
  rw [Rat.mul_comm (W k t h s i), Rat.mul_comm (W k t h s (i + 1))]
theorem filt_last {p : Nat → Bool} {h : Nat} (hh : p h = true) : ∀ m, h < m → (∀ j, h < j → j < m → p j = false) → (List.range m).filter p = (List.range h).filter p ++ [h]
  | 0, z, _ => by omega
  | m + 1, z, o => by
    rw [List.range_succ, List.filter_append]
    by_cases e : h = m
    · subst e
      rw [List.filter_cons_of_pos hh]
      rfl
    · rw [filt_last hh m (by omega) fun j j1 j2 => o j j1 (by omega), List.filter_cons_of_neg (by rw [o m (by omega) (by omega)]; decide)]
      simp
/-- the law's knots -/
def kxl (d : Nat) (xs : List Rat) : List Rat := (List.range (xs.length + 2 * d)).map (kx d xs)
theorem kxl_q {d : Nat} {xs : List Rat} (h : 1 ≤ xs.length) : knotsM d (qx xs) = (kxl d xs).map qOf := by
  refine List.ext_getElem? fun i => ?_
  by_cases hi : i < xs.length + 2 * d
  · rw [knots_x h hi]
    unfold kxl
    rw [List.map_map, range_map_get hi]
    rfl
  · rw [List.getElem?_eq_none (by rw [kx_len]; omega), List.getElem?_eq_none (by unfold kxl; rw [List.length_map, List.length_map, List.length_range]; omega)]
theorem qx_rvL (l : List Rat) : (l.map qOf).map qv = l.map rv := by
  rw [List.map_map]
  rfl
theorem kxl_at {d : Nat} {xs : List Rat} {i : Nat} {z : Int} (hi : i < xs.length + 2 * d) (hz : z = (i : Int)) : L2.atI ((kxl d xs).map rv) z = some (rv (kx d xs i)) := by
  have e : (kxl d xs).map rv = ((kxl d xs).map qOf).map qv := (qx_rvL (kxl d xs)).symm
  rw [e]
  refine atN ?_ hz
  unfold kxl
  rw [List.map_map, range_map_get hi]
  rfl
theorem rowAt {f : Nat → Rat} {m i : Nat} {z : Int} (hi : i < m) (hz : z = (i : Int)) : L2.atI (((List.range m).map f).map rv) z = some (rv (f i)) := by
  have e : ((List.range m).map f).map rv = (((List.range m).map f).map qOf).map qv := (qx_rvL _).symm
  rw [e]
  refine atN ?_ hz
  rw [List.map_map, range_map_get hi]
  rfl
/-- a list that may be one of the memory's -/
def IsRow (m : Mem) (F : AV) (As : List AV) : Prop := F = lst As ∨ ∃ q, F = val (.ref q) ∧ (q, Cell.l As) ∈ m
theorem IsRow.sq {m : Mem} {F : AV} {As : List AV} (h : IsRow m F As) : IsSq m F As := by
  rcases h with rfl | ⟨q, rfl, h⟩
  · exact isSq_lst
  · exact (isLs_mut h).sq
theorem IsRow.more {m : Mem} {F : AV} {As : List AV} (h : IsRow m F As) (m2 : Mem) : IsRow (m ++ m2) F As := by
  rcases h with rfl | ⟨q, rfl, h⟩
  · exact .inl rfl
  · exact .inr ⟨q, rfl, List.mem_append_left _ h⟩
theorem IsRow.ret {m : Mem} {F : AV} {As : List AV} {Kt : KA} (h : IsRow m F As) (q : Kt (lst As) []) : (bodyE Kt).rt F m := by
  rcases h with rfl | ⟨p, rfl, h⟩
  · have cd : Conv (lst As) ([] ++ m) (lst As) [] := conv_drop
    rw [List.nil_append] at cd
    exact ⟨_, [], _, (List.nil_append _).symm, cd, q⟩
  · have cd : Conv (val (.ref p)) ([] ++ m) (lst As) [] := conv_mut h
    rw [List.nil_append] at cd
    exact ⟨_, [], _, (List.nil_append _).symm, cd, q⟩
section
variable {P : Program} {w : World} {K : PySem.W.Frag} {mg : Str → Option Value} {base : Heap} (Z : Blt mg) {C : Addr}
/-! ### all weights at a time, by the law -/
def C_lweights : CT := fun As m Kt => ∃ (d : Nat) (xs : List Rat) (t : Rat) (h q : Nat), As = [AL.int d, lst (xs.map rv), rv t] ∧ m = [] ∧ Mx d xs ∧ Kb q (kx d xs) (xs.length + 2 * d) t ∧ q ≤ 100 ∧ bw q d ≤ 400 ∧ Kn (kx d xs) (xs.length + 2 * d) t h ∧
  d ≤ h ∧ h + 2 ≤ d + xs.length ∧ (t < kx d xs (h + 1) ∨ h + 2 = d + xs.length) ∧ Kt (lst (((List.range (xs.length + 2 * d - 1 - d)).map fun i => W (kx d xs) t h d i).map rv)) []
abbrev s_law_weights : Stmt := topS 61
abbrev N_law_weights : List Str := ["_law_degree", "_law_marks_here", "_law_time", "_law_knots_here", "_law_at", "_law_full", "_law_here", "_law_found", "_law_deep", "_law_later", "_law_up", "_law_end", "_law_down"]
theorem sc_law_weights : FnScope N_law_weights ["_law_degree", "_law_marks_here", "_law_time"] (defScope s_law_weights) := ⟨rfl, rfl, rfl, by decide +kernel, rfl, by decide +kernel, by decide +kernel⟩
set_option maxHeartbeats 0 in
include Z in
theorem F_law_weights (FK : FnC P w K mg base 1 "_law_knots" C_lknotsX) (FW : FnC P w K mg base 1 "_law_below" C_rlt) (FP : FnC P w K mg base 3 "_law_part" C_part) (FU : FnC P w K mg base 2 "_law_sub" (C_r2 fun x y => x - y)) (FA : FnC P w K mg base 2 "_law_add" (C_r2 fun x y => x + y))
    {f : Addr} {fd : FuncData} (F : Fun K "_law_weights" "_law_weights" s_law_weights f fd) (hm : mg "_law_weights" = some (.ref f)) (hb : Binds K fd ["_law_degree", "_law_marks_here", "_law_time"] []) : FnC P w K mg base 4 "_law_weights" C_lweights := by
  refine fnC F sc_law_weights hm hb (fun As m Kt ⟨d, xs, t, h, q, e, _⟩ => by rw [e]; rfl) fun X a As m Kt ⟨d, xs, t, h, qb, e1, em, M, B, q1, q2, Q, h1, h2, h3, q⟩ => ?_
  subst e1 em
  have l2 := M.l2
  have l9 := M.l9
  have d4 := M.d4
  have hn : (kxl d xs).length = xs.length + 2 * d := by unfold kxl; rw [List.length_map, List.length_range]
  generalize hN : xs.length + 2 * d = n at *
  have mono : ∀ i j, i ≤ j → kx d xs i ≤ kx d xs j := fun i j hij => kx_mono M hij
  refine wss_cons ?_
  refine ws_set a 3 rfl (.inr ⟨rfl, rfl⟩) ?_
  refine we_call a FK (by decide) rfl ?_
  refine wa_cons ?_
  refine we_name a 0 rfl (.inl rfl) rfl ?_
  refine wa_cons ?_
  refine we_name a 1 rfl (.inl rfl) rfl ?_
  refine wa_nil ?_
  refine ⟨[], [], rfl, d, qx xs, by rw [qv_rv], (fun e => by have := qx_len xs; rw [e] at this; simp at this; omega), by rw [qx_len]; omega, ?_⟩
  rw [kxl_q (by omega), qv_rv]
  refine wss_cons ?_
  refine ws_lcf a 5 4 rfl rfl rfl rfl rfl (by decide +kernel) rfl rfl ?_
  refine wi_range1 a rfl Z.range ?_
  refine we_sub ?_
  refine b_len a Z rfl ?_
  refine wa_cons ?_
  refine we_name a 3 rfl (.inr (.inl rfl)) rfl ?_
  refine wa_nil ?_
  refine ⟨_, _, rfl, isSq_lst, ?_⟩
  refine we_int ?_
  refine ⟨_, _, rfl, rfl, ?_⟩
  rw [List.length_map, hn]
  refine ⟨_, rfl, by omega, ?_⟩
  have en : (((n : Nat) : Int) - 1).toNat = n - 1 := by omega
  rw [en]
  refine ⟨by rw [rangeA_len]; omega, fun i acc m' => m' = [] ∧ acc = ((List.range i).filter fun j => decide (kx d xs j < kx d xs (j + 1))).map fun (j : Nat) => AL.int j, ⟨rfl, rfl⟩, fun i acc m2 A hA hW X' hX => ?_, fun acc m2 hW => ?_⟩
  · obtain ⟨rfl, rfl⟩ := hW
    have b := hX.at_ a
    obtain ⟨hi, rfl⟩ := rangeA_get hA
    rw [Int.zero_add]
    have bi := B.bk i (by omega)
    have bi1 := B.bk (i + 1) (by omega)
    refine wt_val ?_
    refine we_call b FW (by decide) rfl ?_
    refine wa_cons ?_
    refine we_ix ?_
    refine we_name b 3 rfl (.inr (.inl rfl)) rfl ?_
    refine we_name b 4 rfl (.inl rfl) rfl ?_
    refine ⟨_, _, _, isSq_lst, rfl, kxl_at (i := i) (by omega) rfl, ?_⟩
    refine wa_cons ?_
    refine we_ix ?_
    refine we_name b 3 rfl (.inr (.inl rfl)) rfl ?_
    refine we_add ?_
    refine we_name b 4 rfl (.inl rfl) rfl ?_
    refine we_int ?_
    refine ⟨_, _, rfl, rfl, ?_⟩
    refine ⟨_, _, _, isSq_lst, rfl, kxl_at (i := i + 1) (by omega) (by omega), ?_⟩
    refine wa_nil ?_
    refine ⟨[], _, rfl, kx d xs i, kx d xs (i + 1), rfl, bi.mono (by decide), bi1.mono (by decide), ?_⟩
    refine ⟨_, rfl, ?_⟩
    refine br (fun c1 => ?_) (fun c1 => ?_)
    · intro X2 hX2
      have b2 := hX2.at_ a
      refine we_name b2 4 rfl (.inl rfl) rfl ?_
      refine ⟨rfl, ?_⟩
      rw [List.range_succ, List.filter_append, List.filter_cons_of_pos (p := fun j => decide (kx d xs j < kx d xs (j + 1))) (a := i) (l := []) c1, List.map_append]
      rfl
    · refine ⟨rfl, ?_⟩
      rw [List.range_succ, List.filter_append, List.filter_cons_of_neg (p := fun j => decide (kx d xs j < kx d xs (j + 1))) (a := i) (l := []) (by rw [c1]; decide), List.filter_nil, List.append_nil]
  obtain ⟨e2, e3⟩ := hW
  subst m2
  rw [rangeA_len] at e3
  generalize hfl : (List.range (n - 1)).filter (fun j => decide (kx d xs j < kx d xs (j + 1))) = fl at e3
  subst e3
  have flm : ∀ j ∈ fl, j < n - 1 := fun j hj => by
    rw [← hfl] at hj
    exact List.mem_range.mp (List.mem_filter.mp hj).1
  have fll : fl.length ≤ n := by
    rw [← hfl]
    refine Nat.le_trans (List.length_filter_le _ _) ?_
    rw [List.length_range]
    omega
  refine wss_cons ?_
  refine ws_set a 6 rfl (.inr ⟨rfl, rfl⟩) ?_
  refine we_ix ?_
  refine WN.we (wn_lcf a 4 (by decide +kernel) rfl rfl ?_)
  refine wi_list ?_
  refine we_name a 5 rfl (.inl rfl) rfl ?_
  refine ⟨_, rfl, ?_⟩
  refine ⟨by rw [List.length_map]; omega, fun i acc m' => m' = [] ∧ acc = ((fl.take i).filter fun j => !decide (t < kx d xs j)).map fun (j : Nat) => AL.int j, ⟨rfl, rfl⟩, fun i acc m2 A hA hW X' hX => ?_, fun acc m2 hW => ?_⟩
  · obtain ⟨rfl, rfl⟩ := hW
    have b := hX.at_ a
    rw [List.getElem?_map] at hA
    obtain ⟨j, hj, rfl⟩ := Option.map_eq_some_iff.mp hA
    have jm := flm j (List.mem_of_getElem? hj)
    have bj := B.bk j (by omega)
    refine wt_not ?_
    refine wt_val ?_
    refine we_call b FW (by decide) rfl ?_
    refine wa_cons ?_
    refine we_name b 2 rfl (.inr (.inl rfl)) rfl ?_
    refine wa_cons ?_
    refine we_ix ?_
    refine we_name b 3 rfl (.inr (.inl rfl)) rfl ?_
    refine we_name b 4 rfl (.inl rfl) rfl ?_
    refine ⟨_, _, _, isSq_lst, rfl, kxl_at (i := j) (by omega) rfl, ?_⟩
    refine wa_nil ?_
    refine ⟨[], _, rfl, t, kx d xs j, rfl, B.bt.mono (by decide), bj.mono (by decide), ?_⟩
    refine ⟨_, rfl, ?_⟩
    refine br (fun c1 => ?_) (fun c1 => ?_)
    · intro X2 hX2
      have b2 := hX2.at_ a
      refine we_name b2 4 rfl (.inl rfl) rfl ?_
      refine ⟨rfl, ?_⟩
      rw [take_snoc hj, List.filter_append, List.filter_cons_of_pos (p := fun j => !decide (t < kx d xs j)) (a := j) (l := []) c1, List.map_append]
      rfl
    · refine ⟨rfl, ?_⟩
      rw [take_snoc hj, List.filter_append, List.filter_cons_of_neg (p := fun j => !decide (t < kx d xs j)) (a := j) (l := []) (by rw [c1]; decide), List.filter_nil, List.append_nil]
  obtain ⟨e2, e3⟩ := hW
  subst m2
  rw [List.length_map, List.take_length, ← hfl, List.filter_filter, filt_last (h := h) ?hh (n - 1) (by have := Q.hn; omega) ?ho] at e3
  case hh =>
    rw [decide_eq_false (by have := Q.lo; grind), decide_eq_true Q.lt]
    rfl
  case ho =>
    intro j j1 j2
    rcases h3 with h3 | h3
    · have := mono (h + 1) j (by omega)
      rw [decide_eq_true (show t < kx d xs j by grind)]
      rfl
    · have e : kx d xs j = kx d xs (j + 1) := by
        unfold kx
        congr 1
        omega
      rw [decide_eq_false (show ¬ kx d xs j < kx d xs (j + 1) by grind)]
      exact Bool.and_false _
  rw [List.map_append] at e3
  subst e3
  refine we_neg ?_
  refine we_int ?_
  refine ⟨_, rfl, ?_⟩
  refine ⟨_, _, _, isSq_lst, rfl, atI_last _ _, ?_⟩
  refine wss_cons ?_
  refine ws_lc1 a 7 4 rfl rfl rfl rfl rfl (by decide +kernel) rfl rfl ?_
  refine wi_range1 a rfl Z.range ?_
  refine we_sub ?_
  refine b_len a Z rfl ?_
  refine wa_cons ?_
  refine we_name a 3 rfl (.inr (.inl rfl)) rfl ?_
  refine wa_nil ?_
  refine ⟨_, _, rfl, isSq_lst, ?_⟩
  refine we_int ?_
  refine ⟨_, _, rfl, rfl, ?_⟩
  rw [List.length_map, hn]
  refine ⟨_, rfl, by omega, ?_⟩
  rw [en]
  refine ⟨by rw [rangeA_len]; omega, fun i acc m' => m' = [] ∧ acc = ((List.range i).map fun j => W (kx d xs) t h 0 j).map rv, ⟨rfl, rfl⟩, fun i acc m2 A hA hW X' hX => ?_, fun acc m2 hW => ?_⟩
  · obtain ⟨rfl, rfl⟩ := hW
    have b := hX.at_ a
    obtain ⟨hi, rfl⟩ := rangeA_get hA
    rw [Int.zero_add]
    refine we_tup ?_
    refine wa_cons ?_
    refine b_int b Z rfl ?_
    refine wa_cons ?_
    refine we_cmp (op_eqD (hu_at b)) abs_eqD rfl ?_
    refine we_name b 4 rfl (.inl rfl) rfl ?_
    refine we_name b 6 rfl (.inr (.inl rfl)) rfl ?_
    refine ⟨.int i, .int h, isDat_int, isDat_int, rfl, rfl, ?_⟩
    refine wa_nil ?_
    refine .inr ⟨_, rfl, ?_⟩
    refine wa_cons ?_
    refine we_int ?_
    refine wa_nil ?_
    refine ⟨(by decide : 2 ≤ 1000), ?_⟩
    refine ⟨rfl, ?_⟩
    rw [List.range_succ, List.map_append, List.map_append]
    have e : tup [AL.int (if PyData.eqv (.int (i : Int)) (.int (h : Int)) = true then 1 else 0), AL.int 1] = rv (W (kx d xs) t h 0 i) := by
      show _ = rv (if i = h then 1 else 0)
      by_cases c : i = h
      · subst c
        rw [if_pos rfl, if_pos (by rw [eqv_int]; exact beq_iff_eq.mpr rfl)]
        rfl
      · rw [if_neg c, if_neg (by rw [eqv_int]; intro z; exact c (by have := eq_of_beq z; omega))]
        rfl
    rw [e]
    rfl
  obtain ⟨e2, e3⟩ := hW
  subst m2
  rw [rangeA_len] at e3
  subst e3
  refine wss_cons ?_
  refine ws_for a (fun j ρ' m' => j ≤ d ∧ ∃ (G : AV) (y4 y8 y9 y10 y11 y12 : Option AV), IsRow m' G (((List.range (n - 1 - j)).map fun i => W (kx d xs) t h j i).map rv) ∧ ρ' = [some (AL.int d), some (lst (xs.map rv)), some (rv t), some (lst ((kxl d xs).map rv)), y4, some (lst (fl.map fun (j : Nat) => AL.int j)), some (AL.int h), some G, y8, y9, y10, y11, y12]) ?_
  refine wi_range2 a rfl Z.range ?_
  refine we_int ?_
  refine we_add ?_
  refine we_name a 0 rfl (.inl rfl) rfl ?_
  refine we_int ?_
  refine ⟨_, _, rfl, rfl, ?_⟩
  refine ⟨_, _, rfl, rfl, by omega, ?_⟩
  have ed : (((d : Nat) : Int) + 1 - 1).toNat = d := by omega
  rw [ed]
  refine ⟨⟨Nat.zero_le _, _, _, _, _, _, _, _, .inl rfl, rfl⟩, fun j A ρ' m' hA hW => ?_, fun ρ' m' hW => ?_⟩
  · obtain ⟨hj, G, y4, y8, y9, y10, y11, y12, hG, rfl⟩ := hW
    obtain ⟨hjd, rfl⟩ := rangeA_get hA
    have bwj : bw qb j ≤ 400 := Nat.le_trans (bw_mono (by omega)) q2
    refine wg_name a 8 rfl (.inl rfl) ?_
    refine wss_cons ?_
    refine ws_set a 9 rfl (.inl rfl) ?_
    refine WN.new (wn_list ?_)
    refine wa_nil ?_
    refine ⟨(by decide : 0 ≤ 1000), fun fo => ?_⟩
    refine wss_cons ?_
    refine ws_for a (fun i ρ2 m2 => ∃ (y4 y10 y11 y12 : Option AV), m2 = m' ++ [(fo, .l (((List.range i).map fun i => W (kx d xs) t h (j + 1) i).map rv))] ∧ ρ2 = [some (AL.int d), some (lst (xs.map rv)), some (rv t), some (lst ((kxl d xs).map rv)), y4, some (lst (fl.map fun (j : Nat) => AL.int j)), some (AL.int h), some G, some (AL.int (1 + (j : Int))), some (val (.ref fo)), y10, y11, y12]) ?_
    refine wi_range1 a rfl Z.range ?_
    refine we_sub ?_
    refine b_len a Z rfl ?_
    refine wa_cons ?_
    refine we_name a 7 rfl (.inl rfl) rfl ?_
    refine wa_nil ?_
    refine ⟨_, _, rfl, (hG.more _).sq, ?_⟩
    refine we_int ?_
    refine ⟨_, _, rfl, rfl, ?_⟩
    rw [List.length_map, List.length_map, List.length_range]
    refine ⟨_, rfl, by omega, ?_⟩
    have en2 : (((n - 1 - j : Nat) : Int) - 1).toNat = n - 1 - (j + 1) := by omega
    rw [en2]
    refine ⟨⟨_, _, _, _, rfl, rfl⟩, fun i A ρ2 m2 hA hW => ?_, fun ρ2 m2 hW => ?_⟩
    · obtain ⟨y4, y10, y11, y12, rfl, rfl⟩ := hW
      obtain ⟨hi, rfl⟩ := rangeA_get hA
      rw [Int.zero_add]
      have bt := B.bt
      have k0 := B.bk i (by omega)
      have k1 := B.bk (i + 1) (by omega)
      have k2 := B.bk (i + j + 1) (by omega)
      have k3 := B.bk (i + j + 2) (by omega)
      have w0 := (W_bd Q B j i (by omega)).mono bwj
      have w1 := (W_bd Q B j (i + 1) (by omega)).mono bwj
      have g0 := mono i (i + j + 1) (by omega)
      have g1 := mono (i + 1) (i + j + 2) (by omega)
      refine wg_name a 4 rfl (.inl rfl) ?_
      refine wss_cons ?_
      refine ws_set a 10 rfl (.inl rfl) ?_
      refine we_call a FP (by decide) rfl ?_
      refine wa_cons ?_
      refine we_call a FU (by decide) rfl ?_
      refine wa_cons ?_
      refine we_name a 2 rfl (.inr (.inl rfl)) rfl ?_
      refine wa_cons ?_
      refine we_ix ?_
      refine we_name a 3 rfl (.inr (.inl rfl)) rfl ?_
      refine we_name a 4 rfl (.inl rfl) rfl ?_
      refine ⟨_, _, _, isSq_lst, rfl, kxl_at (i := i) (by omega) rfl, ?_⟩
      refine wa_nil ?_
      refine ⟨[], _, rfl, t, kx d xs i, rfl, bt.mono (by decide), k0.mono (by decide), ?_⟩
      refine wa_cons ?_
      refine we_call a FU (by decide) rfl ?_
      refine wa_cons ?_
      refine we_ix ?_
      refine we_name a 3 rfl (.inr (.inl rfl)) rfl ?_
      refine we_add ?_
      refine we_name a 4 rfl (.inl rfl) rfl ?_
      refine we_name a 8 rfl (.inl rfl) rfl ?_
      refine ⟨_, _, rfl, rfl, ?_⟩
      refine ⟨_, _, _, isSq_lst, rfl, kxl_at (i := i + j + 1) (by omega) (by omega), ?_⟩
      refine wa_cons ?_
      refine we_ix ?_
      refine we_name a 3 rfl (.inr (.inl rfl)) rfl ?_
      refine we_name a 4 rfl (.inl rfl) rfl ?_
      refine ⟨_, _, _, isSq_lst, rfl, kxl_at (i := i) (by omega) rfl, ?_⟩
      refine wa_nil ?_
      refine ⟨[], _, rfl, kx d xs (i + j + 1), kx d xs i, rfl, k2.mono (by decide), k0.mono (by decide), ?_⟩
      refine wa_cons ?_
      refine we_ix ?_
      refine we_name a 7 rfl (.inl rfl) rfl ?_
      refine we_name a 4 rfl (.inl rfl) rfl ?_
      refine ⟨_, _, _, (hG.more _).sq, rfl, rowAt (i := i) (by omega) rfl, ?_⟩
      refine wa_nil ?_
      refine ⟨[], _, rfl, t - kx d xs i, kx d xs (i + j + 1) - kx d xs i, W (kx d xs) t h j i, rfl, (bt.sub k0).mono (by decide), (k2.sub k0).mono (by decide), by grind, w0.mono (by decide), ?_⟩
      refine wss_cons ?_
      refine ws_set a 11 rfl (.inl rfl) ?_
      refine we_ix ?_
      refine we_name a 3 rfl (.inr (.inl rfl)) rfl ?_
      refine we_add ?_
      refine we_add ?_
      refine we_name a 4 rfl (.inl rfl) rfl ?_
      refine we_name a 8 rfl (.inl rfl) rfl ?_
      refine ⟨_, _, rfl, rfl, ?_⟩
      refine we_int ?_
      refine ⟨_, _, rfl, rfl, ?_⟩
      refine ⟨_, _, _, isSq_lst, rfl, kxl_at (i := i + j + 2) (by omega) (by omega), ?_⟩
      refine wss_cons ?_
      refine ws_set a 12 rfl (.inl rfl) ?_
      refine we_call a FP (by decide) rfl ?_
      refine wa_cons ?_
      refine we_call a FU (by decide) rfl ?_
      refine wa_cons ?_
      refine we_name a 11 rfl (.inl rfl) rfl ?_
      refine wa_cons ?_
      refine we_name a 2 rfl (.inr (.inl rfl)) rfl ?_
      refine wa_nil ?_
      refine ⟨[], _, rfl, kx d xs (i + j + 2), t, rfl, k3.mono (by decide), bt.mono (by decide), ?_⟩
      refine wa_cons ?_
      refine we_call a FU (by decide) rfl ?_
      refine wa_cons ?_
      refine we_name a 11 rfl (.inl rfl) rfl ?_
      refine wa_cons ?_
      refine we_ix ?_
      refine we_name a 3 rfl (.inr (.inl rfl)) rfl ?_
      refine we_add ?_
      refine we_name a 4 rfl (.inl rfl) rfl ?_
      refine we_int ?_
      refine ⟨_, _, rfl, rfl, ?_⟩
      refine ⟨_, _, _, isSq_lst, rfl, kxl_at (i := i + 1) (by omega) (by omega), ?_⟩
      refine wa_nil ?_
      refine ⟨[], _, rfl, kx d xs (i + j + 2), kx d xs (i + 1), rfl, k3.mono (by decide), k1.mono (by decide), ?_⟩
      refine wa_cons ?_
      refine we_ix ?_
      refine we_name a 7 rfl (.inl rfl) rfl ?_
      refine we_add ?_
      refine we_name a 4 rfl (.inl rfl) rfl ?_
      refine we_int ?_
      refine ⟨_, _, rfl, rfl, ?_⟩
      refine ⟨_, _, _, (hG.more _).sq, rfl, rowAt (i := i + 1) (by omega) (by omega), ?_⟩
      refine wa_nil ?_
      refine ⟨[], _, rfl, kx d xs (i + j + 2) - t, kx d xs (i + j + 2) - kx d xs (i + 1), W (kx d xs) t h j (i + 1), rfl, (k3.sub bt).mono (by decide), (k3.sub k1).mono (by decide), by grind, w1.mono (by decide), ?_⟩
      refine wss_cons ?_
      refine ws_expr ?_
      refine we_append ?_
      refine we_name a 9 rfl (.inl rfl) rfl ?_
      refine ⟨fo, _, m', [], rfl, rfl, ?_⟩
      refine we_call a FA (by decide) rfl ?_
      refine wa_cons ?_
      refine we_name a 10 rfl (.inl rfl) rfl ?_
      refine wa_cons ?_
      refine we_name a 12 rfl (.inl rfl) rfl ?_
      refine wa_nil ?_
      refine ⟨[], _, rfl, _, _, rfl, (up_bd Q B (s := j) (i := i) (by omega)).mono (by omega), (down_bd Q B (s := j) (i := i) (by omega)).mono (by omega), ?_⟩
      refine ⟨_, m', [], rfl, by rw [List.length_map, List.length_map, List.length_range]; omega, ?_⟩
      refine wss_nil ?_
      refine ⟨_, _, _, _, ?_, rfl⟩
      have e : [rv ((t - kx d xs i) / (kx d xs (i + j + 1) - kx d xs i) * W (kx d xs) t h j i + (kx d xs (i + j + 2) - t) / (kx d xs (i + j + 2) - kx d xs (i + 1)) * W (kx d xs) t h j (i + 1))] = ((([i] : List Nat).map fun i => W (kx d xs) t h (j + 1) i).map rv) := by
        rw [W_next]
        rfl
      rw [List.range_succ, List.map_append, List.map_append, ← e]
    · obtain ⟨y4, y10, y11, y12, rfl, rfl⟩ := hW
      rw [rangeA_len]
      refine wss_cons ?_
      refine ws_set a 7 rfl (.inl rfl) ?_
      refine we_name a 9 rfl (.inl rfl) rfl ?_
      refine wss_nil ?_
      exact ⟨by omega, _, _, _, _, _, _, _, .inr ⟨fo, rfl, List.mem_append_right _ List.mem_cons_self⟩, rfl⟩
  · obtain ⟨hj, G, y4, y8, y9, y10, y11, y12, hG, rfl⟩ := hW
    rw [rangeA_len] at hG
    refine wss_cons ?_
    refine ws_ret ?_
    refine we_name a 7 rfl (.inl rfl) rfl ?_
    exact hG.ret q
end
end HB
namespace HB
open PySem PySem.Spec L2 AL
open PyProof.Rows hiding St
/-! ### what is shown -/
theorem Bd.lg {k : Nat} {x : Rat} (h : Bd k x) (hk : k ≤ 1900) : (qOf x).1.natAbs.log2 < 1920 ∧ (qOf x).2.natAbs.log2 < 1920 := by
  have two : ∀ n : Nat, n < 2 ^ k → n.log2 < 1920 := fun n hn => by
    by_cases e : n = 0
    · subst e
      decide
    · exact Nat.lt_of_lt_of_le ((Nat.log2_lt e).mpr hn) (by omega)
  exact ⟨two _ h.1, two _ h.2⟩
abbrev qr (x : Rat) : PyData := qd (qOf x)
theorem numD_q {k : Nat} {x : Rat} (h : Bd k x) (hk : k ≤ 1900) : numD (qr x) = true := by
  obtain ⟨h1, h2⟩ := h.lg hk
  simp [numD, numAll, h1, h2]
theorem show_q {k : Nat} {x : Rat} (h : Bd k x) (hk : k ≤ 1900) : ShowD (qr x) :=
  ⟨⟨_, .inl rfl⟩, numD_q h hk, by show (0 + 1 + (0 + 1 + 0)) ≤ 8000; decide, by show max 0 (max 0 0) + 1 ≤ 30; decide⟩
theorem numAll_row {k : Nat} (hk : k ≤ 1900) : ∀ l : List Rat, (∀ x ∈ l, Bd k x) → numAll (l.map qr) = true ∧ PyData.bulkAll (l.map qr) = 3 * l.length ∧ PyData.depthAll (l.map qr) ≤ 1
  | [], _ => ⟨rfl, rfl, Nat.zero_le _⟩
  | x :: l, h => by
    obtain ⟨a, b, c⟩ := numAll_row hk l fun y hy => h y (List.mem_cons_of_mem _ hy)
    refine ⟨?_, ?_, ?_⟩
    · show numAll (qr x :: l.map qr) = true
      unfold numAll
      rw [numD_q (h x List.mem_cons_self) hk, a]
      rfl
    · show (0 + 1 + (0 + 1 + 0)) + 1 + PyData.bulkAll (l.map qr) = _
      rw [b, List.length_cons]
      omega
    · show max (max 0 (max 0 0) + 1) (PyData.depthAll (l.map qr)) ≤ 1
      omega
theorem show_row {k : Nat} (hk : k ≤ 1900) {l : List Rat} (h : ∀ x ∈ l, Bd k x) (hl : l.length ≤ 900) : ShowD (.tuple (l.map qr)) := by
  obtain ⟨a, b, c⟩ := numAll_row hk l h
  refine ⟨⟨_, .inl rfl⟩, ?_, ?_, ?_⟩
  · unfold numD
    exact a
  · show PyData.bulkAll (l.map qr) ≤ 8000
    omega
  · show PyData.depthAll (l.map qr) + 1 ≤ 30
    omega
theorem allDat_row {m : Mem} : ∀ l : List Rat, AllDat m (l.map rv) (l.map qr)
  | [] => .nil
  | _ :: l => .cons dat_q (allDat_row l)
theorem dat_row {m : Mem} {l : List Rat} : IsDat m (tup (l.map rv)) (.tuple (l.map qr)) := isDat_tup (allDat_row l)
theorem eqvR {x : Rat} : PyData.eqv (qr x) (qr x) = true := by rw [eqv_q]; exact decide_eq_true rfl
theorem eqvS {x : Str} : PyData.eqv (.str x) (.str x) = true := by
  show (x == x) = true
  exact beq_self_eq_true x
section
variable {P : Program} {w : World} {K : PySem.W.Frag} {mg : Str → Option Value} {base : Heap} (Z : Blt mg) {C : Addr}
/-! ### a sum, of few that are not nought -/
def C_lsumX : CT := fun As m Kt => ∃ (A : AV) (l : List Rat), As = [A] ∧ IsSeqA A (l.map rv) ∧ (∀ x ∈ l, Bd 3000 x) ∧ (∀ j, Bd 3000 (sumR (l.take j))) ∧ Kt (rv (sumR l)) m
theorem F_law_sumX (G : FnC P w K mg base 2 "_law_add" (C_r2 fun x y => x + y)) {f : Addr} {fd : FuncData} (F : Fun K "_law_sum" "_law_sum" s_law_sum f fd) (hm : mg "_law_sum" = some (.ref f)) (hb : Binds K fd ["_law_some"] []) : FnC P w K mg base 3 "_law_sum" C_lsumX := by
  refine fnC F sc_law_sum hm hb (fun As m Kt ⟨A, l, h, _⟩ => by rw [h]; rfl) fun X a As m Kt ⟨A, l, e1, hs, hl, h3, q⟩ => ?_
  subst e1
  refine wss_cons ?_
  refine ws_set a 1 rfl (.inl rfl) ?_
  refine we_tup ?_
  refine wa_cons ?_
  refine we_int ?_
  refine wa_cons ?_
  refine we_int ?_
  refine wa_nil ?_
  refine ⟨(by decide : 2 ≤ 1000), ?_⟩
  refine wss_cons ?_
  refine ws_for a (fun i ρ' m' => m' = m ∧ ∃ y, ρ' = [some A, some (rv (sumR (l.take i))), y]) ?_
  refine wi_seq ⟨A, hs, fun Kt k => we_name a 0 rfl (.inl rfl) rfl k⟩ ?_
  refine ⟨⟨rfl, none, rfl⟩, fun i B ρ' m' hB hW => ?_, fun ρ' m' hW => ?_⟩
  · obtain ⟨rfl, y, rfl⟩ := hW
    obtain ⟨x, hx, rfl⟩ := rv_get hB
    refine wg_name a 2 rfl (.inl rfl) ?_
    refine wss_cons ?_
    refine ws_set a 1 rfl (.inl rfl) ?_
    refine we_call a G (by decide) rfl ?_
    refine wa_cons ?_
    refine we_name a 1 rfl (.inl rfl) rfl ?_
    refine wa_cons ?_
    refine we_name a 2 rfl (.inl rfl) rfl ?_
    refine wa_nil ?_
    refine ⟨[], _, rfl, _, _, rfl, h3 i, hl x (List.mem_of_getElem? hx), ?_⟩
    refine wss_nil ?_
    refine ⟨rfl, some (rv x), ?_⟩
    rw [← sum_step hx]
    rfl
  · obtain ⟨rfl, y, rfl⟩ := hW
    rw [List.length_map, List.take_length]
    refine wss_cons ?_
    refine ws_ret ?_
    refine we_name a 1 rfl (.inl rfl) rfl ?_
    exact bodyE.ret q
end
/-- the sums of the first ones stay small, if few are not nought -/
theorem few_bd {k c : Nat} {l : List Rat} (hl : ∀ x ∈ l, Bd k x) (hc : l.countP (fun x => decide (x ≠ 0)) ≤ c) (hk : k ≤ 4000) (h : 1 + (k + 1) * c ≤ 4000) (j : Nat) : Bd (1 + (k + 1) * c) (sumR (l.take j)) := by
  refine (total_nz (l.take j) 0 1 c bd0 (fun x hx => hl x (List.mem_of_mem_take hx)) ?_ hk h).2
  exact Nat.le_trans ((List.take_sublist j l).countP_le) hc
end HB
namespace HB
open PySem PySem.Spec L2 AL
open PyProof.Rows hiding St
abbrev toldX (d : Nat) (xs hs : List Rat) : AV := tup [AL.int d, lst (xs.map rv), lst (hs.map rv)]
theorem told_x (d : Nat) (zs : List Int) (hs : List Rat) : toldV d zs hs = toldX d (xz zs) hs := by
  show tup [_, lst ((qz zs).map qv), lst ((hs.map qOf).map qv)] = _
  rw [qz_x, qx_rvL, qx_rvL]
section
variable {P : Program} {w : World} {K : PySem.W.Frag} {mg : Str → Option Value} {base : Heap} (Z : Blt mg) {C : Addr}
/-! ### the package's bend, of any marks -/
def C_madeX (C : Addr) : CT := fun As m Kt => ∃ (d : Nat) (xs hs : List Rat), As = [toldX d xs hs] ∧ Mx d xs ∧ hs.length + 1 = d + xs.length ∧ Kt (bendV C d (qx xs) (hs.map qOf)) m
theorem F_law_madeX (CB : ClsC P w K mg base 5 "Bend" C R_bend) {f : Addr} {fd : FuncData} (F : Fun K "_law_made" "_law_made" s_law_made f fd) (hm : mg "_law_made" = some (.ref f)) (hb : Binds K fd ["_law_told"] []) : FnC P w K mg base 7 "_law_made" (C_madeX C) := by
  refine fnC F sc_law_made hm hb (fun As m Kt ⟨d, xs, hs, h, _⟩ => by rw [h]; rfl) fun X a As m Kt ⟨d, xs, hs, e1, M, hl, q⟩ => ?_
  subst e1
  have l9 := M.l9
  have d4 := M.d4
  refine wss_cons ?_
  refine ws_ret ?_
  refine we_make a CB (by decide) rfl ?_
  refine wa_cons ?_
  refine we_ix ?_
  refine we_name a 0 rfl (.inl rfl) rfl ?_
  refine we_int ?_
  refine ⟨_, _, _, isSq_tup, rfl, rfl, ?_⟩
  refine wa_cons ?_
  refine we_ix ?_
  refine we_name a 0 rfl (.inl rfl) rfl ?_
  refine we_int ?_
  refine ⟨_, _, _, isSq_tup, rfl, rfl, ?_⟩
  refine wa_cons ?_
  refine we_ix ?_
  refine we_name a 0 rfl (.inl rfl) rfl ?_
  refine we_int ?_
  refine ⟨_, _, _, isSq_tup, rfl, rfl, ?_⟩
  refine wa_nil ?_
  rw [← qx_rvL xs, ← qx_rvL hs]
  refine ⟨d, _, _, qx xs, _, _, hs.map qOf, rfl, .inl rfl, norm_vs (qO_norm xs), marks_x M, .inl rfl, norm_vs (qO_norm hs), by rw [List.length_map]; omega, by rw [List.length_map, qx_len]; omega, ?_⟩
  exact bodyE.ret q
/-! ### the value by the law's own weights -/
def C_worth : CT := fun As m Kt => ∃ (d : Nat) (xs hs : List Rat) (t v : Rat) (h q b : Nat), As = [toldX d xs hs, rv t] ∧ m = [] ∧ Wv d xs hs t v h q b ∧ Kt (rv v) []
abbrev s_law_worth : Stmt := topS 62
abbrev N_law_worth : List Str := ["_law_told", "_law_time", "_law_some", "_law_weight", "_law_handle"]
theorem sc_law_worth : FnScope N_law_worth ["_law_told", "_law_time"] (defScope s_law_worth) := ⟨rfl, rfl, rfl, by decide +kernel, rfl, by decide +kernel, by decide +kernel⟩
include Z in
theorem F_law_worth (FW : FnC P w K mg base 4 "_law_weights" C_lweights) (FL : FnC P w K mg base 2 "_law_mul" (C_r2 fun x y => x * y)) (FS : FnC P w K mg base 3 "_law_sum" C_lsumX)
    {f : Addr} {fd : FuncData} (F : Fun K "_law_worth" "_law_worth" s_law_worth f fd) (hm : mg "_law_worth" = some (.ref f)) (hb : Binds K fd ["_law_told", "_law_time"] []) : FnC P w K mg base 5 "_law_worth" C_worth := by
  refine fnC F sc_law_worth hm hb (fun As m Kt ⟨d, xs, hs, t, v, h, q, b, e, _⟩ => by rw [e]; rfl) fun X a As m Kt ⟨d, xs, hs, t, v, h, qb, bb, e1, em, V, q⟩ => ?_
  subst e1 em
  have M := V.M
  have l2 := M.l2
  have l9 := M.l9
  have d4 := M.d4
  have hl := V.hl
  have en : xs.length + 2 * d - 1 - d = hs.length := by omega
  refine wss_cons ?_
  refine ws_set a 2 rfl (.inl rfl) ?_
  refine we_call a FW (by decide) rfl ?_
  refine wa_cons ?_
  refine we_ix ?_
  refine we_name a 0 rfl (.inl rfl) rfl ?_
  refine we_int ?_
  refine ⟨_, _, _, isSq_tup, rfl, rfl, ?_⟩
  refine wa_cons ?_
  refine we_ix ?_
  refine we_name a 0 rfl (.inl rfl) rfl ?_
  refine we_int ?_
  refine ⟨_, _, _, isSq_tup, rfl, rfl, ?_⟩
  refine wa_cons ?_
  refine we_name a 1 rfl (.inl rfl) rfl ?_
  refine wa_nil ?_
  refine ⟨[], [], rfl, d, xs, t, h, qb, rfl, rfl, M, V.B, V.q1, Nat.le_trans V.q2 (by decide), V.Q, V.h1, V.h2, V.h3, ?_⟩
  rw [en]
  have wb : ∀ i, i < hs.length → Bd 361 (W (kx d xs) t h d i) := fun i hi => (W_bd V.Q V.B d i (by omega)).mono V.q2
  have hbx : ∀ i, i < hs.length → Bd bb (hs.getD i 0) := fun i hi => V.hb _ (by rw [List.getD_eq_getElem?_getD, List.getElem?_eq_getElem hi]; exact List.getElem_mem hi)
  generalize hL : (List.range hs.length).map (fun i => W (kx d xs) t h d i * hs.getD i 0) = L
  have hLl : L.length = hs.length := by rw [← hL, List.length_map, List.length_range]
  have b8 := V.b8
  have Lb : ∀ x ∈ L, Bd (361 + bb) x := fun x hx => by
    rw [← hL] at hx
    obtain ⟨i, hi, rfl⟩ := List.mem_map.mp hx
    have hi := List.mem_range.mp hi
    exact (wb i hi).mul (hbx i hi)
  have Ls : sumR L = v := by
    rw [← hL, V.ev]
    have := sumTo_q (fun i => W (kx d xs) t h d i * hs.getD i 0) hs.length
    refine Eq.trans this (sumTo_congr fun i hi => ?_)
    exact Rat.mul_comm _ _
  have Lp : ∀ j, Bd 3000 (sumR (L.take j)) := fun j => by
    refine (few_bd (c := 5) Lb ?_ (by omega) (by omega) j).mono (by omega)
    rw [← hL, List.countP_map]
    refine Nat.le_trans (count_near (lo := h - d) (d := d) (fun i hi => ?_) _) (by omega)
    have hi : W (kx d xs) t h d i * hs.getD i 0 ≠ 0 := of_decide_eq_true hi
    have := W_support d i (fun z => hi (by rw [z, Rat.zero_mul]))
    omega
  refine wss_cons ?_
  refine ws_ret ?_
  refine we_call a FS (by decide) rfl ?_
  refine wa_cons ?_
  refine WN.we (wn_lc2 a 3 4 (by decide +kernel) (by decide) rfl rfl rfl rfl ?_)
  refine wi_zip a rfl Z.zip ?_
  refine we_name a 2 rfl (.inl rfl) rfl ?_
  refine we_ix ?_
  refine we_name a 0 rfl (.inl rfl) rfl ?_
  refine we_int ?_
  refine ⟨_, _, _, isSq_tup, rfl, rfl, ?_⟩
  refine ⟨_, _, .inl ⟨rfl, rfl⟩, ?_⟩
  refine ⟨_, _, rfl, by rw [pairA_len, List.length_map, List.length_map, List.length_map]; omega, fun i acc m' => m' = [] ∧ acc = (L.map rv).take i, ⟨rfl, rfl⟩, fun i acc m2 A1 A2 hA1 hA2 hW X' hX => ?_, fun acc m2 hW => ?_⟩
  · obtain ⟨rfl, rfl⟩ := hW
    have b := hX.at_ a
    obtain ⟨x, hx, rfl⟩ := rv_get hA1
    obtain ⟨y, hy, rfl⟩ := rv_get hA2
    have hi : i < hs.length := (List.getElem?_eq_some_iff.mp hy).1
    rw [range_map_get hi] at hx
    have ex := Option.some.inj hx
    subst ex
    have ey : hs.getD i 0 = y := by rw [List.getD_eq_getElem?_getD, hy]; rfl
    refine we_call b FL (by decide) rfl ?_
    refine wa_cons ?_
    refine we_name b 3 rfl (.inl rfl) rfl ?_
    refine wa_cons ?_
    refine we_name b 4 rfl (.inl rfl) rfl ?_
    refine wa_nil ?_
    refine ⟨[], _, rfl, _, y, rfl, (wb i hi).mono (by decide), (by rw [← ey]; exact (hbx i hi).mono (by omega)), ?_⟩
    refine ⟨rfl, (take_snoc ?_).symm⟩
    rw [List.getElem?_map, ← hL, range_map_get hi, ← ey]
    rfl
  · obtain ⟨e2, e3⟩ := hW
    subst m2
    rw [List.take_of_length_le (by rw [List.length_map, hLl]; simp)] at e3
    subst e3
    refine wa_nil ?_
    refine ⟨[], [], rfl, _, L, rfl, .inl rfl, (fun x hx => (Lb x hx).mono (by omega)), Lp, ?_⟩
    rw [Ls]
    exact bodyE.ret q
end
end HB
namespace HB
open PySem PySem.Spec L2 AL
open PyProof.Rows hiding St
theorem WT.mono' {X : Cx} {e : Expr} {ρ : Rho} {m : Mem} {Kb Kb' : KT} (h : WT X e ρ m Kb) (k : ∀ b m', Kb b m' → Kb' b m') : WT X e ρ m Kb' := fun fr σ H o Q g => h fr σ H o Q fun b m' H' z => g b m' H' (k b m' z)
theorem atR {l : List Rat} {n : Nat} {z : Int} (h : n < l.length) (hz : z = (n : Int)) : L2.atI (l.map rv) z = some (rv (l.getD n 0)) := by
  rw [← qx_rvL]
  refine atN ?_ hz
  rw [List.getElem?_map, List.getD_eq_getElem?_getD, List.getElem?_eq_getElem h]
  rfl
theorem atR_last {l : List Rat} (h : 1 ≤ l.length) : L2.atI (l.map rv) (-1) = some (rv (l.getD (l.length - 1) 0)) := by
  rw [← qx_rvL]
  have := at_last (qs := qx l) (fun e => by have := qx_len l; rw [e] at this; simp at this; omega)
  rw [qx_last l h] at this
  exact this
theorem wv_at {d : Nat} {zs : List Int} {hs : List Rat} (M : Mks d zs) {t : Rat} (T : TOk zs 4 t) (hl : hs.length + 1 = d + zs.length) (hb : ∀ x ∈ hs, Bd 10 x) : ∃ v h, Wv d (xz zs) hs t v h 11 10 := by
  obtain ⟨B, t0, t1, _⟩ := kb_xz M (by decide) (by decide) T
  exact wv_of M.mx B t0 t1 (by decide) (W_b4 M.d4) (by rw [List.length_map]; exact hl) hb (by decide)
theorem tok_first {d : Nat} {zs : List Int} (M : Mks d zs) : TOk zs 4 ((xz zs).getD 0 0) := by
  have l2 := M.l2
  refine ⟨zs.getD 0 0 * (4 : Nat), by rw [xz_getD, fx_mul (by decide)], Int.le_refl _, ?_⟩
  have := M.so 0 (zs.length - 1) (by omega) (by omega)
  omega
theorem tok_last {d : Nat} {zs : List Int} (M : Mks d zs) : TOk zs 4 ((xz zs).getD ((xz zs).length - 1) 0) := by
  have l2 := M.l2
  refine ⟨zs.getD (zs.length - 1) 0 * (4 : Nat), by rw [xz_getD, List.length_map, fx_mul (by decide)], ?_, Int.le_refl _⟩
  have := M.so 0 (zs.length - 1) (by omega) (by omega)
  omega
/-! ### two bends far out -/
abbrev tFar : Rat := 1 / 123456789
theorem q_far : qOf tFar = (1, 123456789) := by decide +kernel
theorem wv_far : ∃ v h, Wv 0 [0, 9999] [9999 / 9998] tFar v h 58 14 := by
  refine wv_of (mx_two (by decide) (by decide +kernel) (by unfold Bd; decide +kernel) (by unfold Bd; decide +kernel)) (kb_two (by decide +kernel) (by unfold Bd; decide +kernel) (by unfold Bd; decide +kernel) (by unfold Bd; decide +kernel) (by unfold Bd; decide +kernel) (by unfold Bd; decide +kernel)) ?_ ?_ (by decide) (by decide) rfl ?_ (by decide)
  · show (0 : Rat) ≤ tFar
    decide +kernel
  · show tFar ≤ (9999 : Rat)
    decide +kernel
  · intro x hx
    rw [List.mem_singleton.mp hx]
    unfold Bd
    decide +kernel
theorem wv_wide : ∃ v h, Wv 2 [-9999, 9999 / 7] [9999 / 9998, -1234 / 5, 1 / 9999] tFar v h 58 14 := by
  refine wv_of (mx_two (by decide) (by decide +kernel) (by unfold Bd; decide +kernel) (by unfold Bd; decide +kernel)) (kb_two (by decide +kernel) (by unfold Bd; decide +kernel) (by unfold Bd; decide +kernel) (by unfold Bd; decide +kernel) (by unfold Bd; decide +kernel) (by unfold Bd; decide +kernel)) ?_ ?_ (by decide) (by decide) rfl ?_ (by decide)
  · show (-9999 : Rat) ≤ tFar
    decide +kernel
  · show tFar ≤ (9999 / 7 : Rat)
    decide +kernel
  · intro x hx
    rw [List.mem_cons, List.mem_cons, List.mem_singleton] at hx
    rcases hx with rfl | rfl | rfl <;> (unfold Bd; decide +kernel)
abbrev farV : AV := tup [AL.int 0, lst [tup [AL.int 0, AL.int 1], tup [AL.int 9999, AL.int 1]], lst [tup [AL.int 9999, AL.int 9998]]]
abbrev wideV : AV := tup [AL.int 2, lst [tup [AL.int (0 - 9999), AL.int 1], tup [AL.int 9999, AL.int 7]], lst [tup [AL.int 9999, AL.int 9998], tup [AL.int (0 - 1234), AL.int 5], tup [AL.int 1, AL.int 9999]]]
theorem rv_is {x : Rat} {p q : Int} (h : qOf x = (p, q)) : rv x = tup [AL.int p, AL.int q] := by
  show qv (qOf x) = _
  rw [h]
theorem far_is : farV = toldX 0 [0, 9999] [9999 / 9998] := by
  show _ = tup [AL.int (0 : Nat), lst [rv 0, rv 9999], lst [rv (9999 / 9998)]]
  rw [rv_is (x := 0) (p := 0) (q := 1) (by decide +kernel), rv_is (x := 9999) (p := 9999) (q := 1) (by decide +kernel), rv_is (x := 9999 / 9998) (p := 9999) (q := 9998) (by decide +kernel)]
  rfl
theorem wide_is : wideV = toldX 2 [-9999, 9999 / 7] [9999 / 9998, -1234 / 5, 1 / 9999] := by
  show _ = tup [AL.int (2 : Nat), lst [rv (-9999), rv (9999 / 7)], lst [rv (9999 / 9998), rv (-1234 / 5), rv (1 / 9999)]]
  rw [rv_is (x := -9999) (p := 0 - 9999) (q := 1) (by decide +kernel), rv_is (x := 9999 / 7) (p := 9999) (q := 7) (by decide +kernel), rv_is (x := 9999 / 9998) (p := 9999) (q := 9998) (by decide +kernel), rv_is (x := -1234 / 5) (p := 0 - 1234) (q := 5) (by decide +kernel), rv_is (x := 1 / 9999) (p := 1) (q := 9999) (by decide +kernel)]
  rfl
theorem far_wide {A : AV} {i : Nat} (h : ([farV, wideV] : List AV)[i]? = some A) : ∃ d xs hs v k q b, A = toldX d xs hs ∧ Wv d xs hs tFar v k q b := by
  have : A = farV ∨ A = wideV := by
    have hm := List.mem_of_getElem? h
    rw [List.mem_cons, List.mem_singleton] at hm
    exact hm
  rcases this with rfl | rfl
  · obtain ⟨v, k, V⟩ := wv_far
    exact ⟨_, _, _, v, k, _, _, far_is, V⟩
  · obtain ⟨v, k, V⟩ := wv_wide
    exact ⟨_, _, _, v, k, _, _, wide_is, V⟩
/-- what is kept: a bend, a time, the value there -/
def KP (C : Addr) (A : AV) : Prop := ∃ (d : Nat) (xs hs : List Rat) (t v : Rat), A = tup [bendV C d (qx xs) (hs.map qOf), rv t, rv v] ∧ hs.length ≤ 900 ∧ valueO d (qx xs) (hs.map qOf) (qOf t) = some (qOf v)
end HB
namespace HB
open PySem PySem.Spec L2 AL
open PyProof.Rows hiding St
section
variable {P : Program} {w : World} {K : PySem.W.Frag} {mg : Str → Option Value} {base : Heap} (Z : Blt mg) {C : Addr}
def C_law : CT := fun As m Kt => ∃ ns : List Int, As = [scr (ns.map AL.int)] ∧ m = [] ∧ ∀ m', Kt (AL.bool true) m'
abbrev s_law : Stmt := topS 64
abbrev N_law : List Str := ["_law_script", "_law_k", "_law_box_here", "_law_kept", "_law_turn", "_law_told", "_law_made_here", "_law_time", "_law_due", "_law_far", "_law_wide"]
theorem sc_law : FnScope N_law ["_law_script"] (defScope s_law) := ⟨rfl, rfl, rfl, by decide +kernel, rfl, by decide +kernel, by decide +kernel⟩
set_option maxHeartbeats 0 in
include Z in
theorem F_law (hmx : mg "max" = none) (hmn : mg "min" = none) (hrp : mg "repr" = none) (FB : FnC P w K mg base 1 "_law_box" C_box) (FD : FnC P w K mg base 4 "_law_drawn" C_drawn) (FM : FnC P w K mg base 7 "_law_made" (C_madeX C))
    (FT : FnC P w K mg base 3 "_law_times" C_times) (FO : FnC P w K mg base 5 "_law_worth" C_worth) (FV : FnC P w K mg base 6 "value" (C_value C))
    {f : Addr} {fd : FuncData} (F : Fun K "law" "law" s_law f fd) : FnG P w K mg base 8 f fd ["_law_script"] (spOf K C_law) := by
  refine fnG F sc_law (fun As m Kt ⟨ns, h, _⟩ => by rw [h]; rfl) fun X a hG As m Kt ⟨ns, e1, em, q⟩ => ?_
  subst e1 em
  refine wss_cons ?_
  refine ws_for a (fun i ρ' m' => i ≤ 3 ∧ ∃ y1 y2 y3 y4 y5 y6 y7 y8 y9 y10 : Option AV, ρ' = [some (scr (ns.map AL.int)), y1, y2, y3, y4, y5, y6, y7, y8, y9, y10]) ?_
  refine wi_range1 a rfl Z.range ?_
  refine b_max a rfl hmx ?_
  refine wa_cons ?_
  refine we_int ?_
  refine wa_cons ?_
  refine b_min a rfl hmn ?_
  refine wa_cons ?_
  refine we_int ?_
  refine wa_cons ?_
  refine b_len a Z rfl ?_
  refine wa_cons ?_
  refine we_name a 0 rfl (.inl rfl) rfl ?_
  refine wa_nil ?_
  refine ⟨_, _, rfl, isSq_scr, ?_⟩
  refine wa_nil ?_
  refine ⟨_, _, rfl, ?_⟩
  refine wa_nil ?_
  refine ⟨_, _, rfl, ?_⟩
  generalize hrn : (if (if (((ns.map AL.int).length : Nat) : Int) < 3 then (((ns.map AL.int).length : Nat) : Int) else 3) > 1 then (if (((ns.map AL.int).length : Nat) : Int) < 3 then (((ns.map AL.int).length : Nat) : Int) else 3) else 1) = rn
  have rn3 : 0 ≤ rn ∧ rn ≤ 3 := by
    rw [← hrn]
    split <;> split <;> omega
  refine ⟨_, rfl, by omega, ?_⟩
  refine ⟨⟨by decide, _, _, _, _, _, _, _, _, _, _, rfl⟩, fun i B ρ' m' hB hW => ?_, fun ρ' m' hW => ?_⟩
  · obtain ⟨_, y1, y2, y3, y4, y5, y6, y7, y8, y9, y10, rfl⟩ := hW
    obtain ⟨hi, eB⟩ := rangeA_get hB
    rw [Int.zero_add] at eB
    subst eB
    have hi3 : i < 3 := by omega
    refine wg_name a 1 rfl (.inl rfl) ?_
    refine wss_cons ?_
    refine ws_par a 2 3 rfl rfl (by decide) rfl rfl rfl (by decide) (by decide) rfl rfl rfl ?_
    refine wa_cons ?_
    refine we_call a FB (by decide) rfl ?_
    refine wa_cons ?_
    refine we_name a 0 rfl (.inl rfl) rfl ?_
    refine wa_cons ?_
    refine we_name a 1 rfl (.inl rfl) rfl ?_
    refine wa_cons ?_
    refine we_int ?_
    refine wa_nil ?_
    refine ⟨[], m', rfl, ns, (i : Int), 7, rfl, by omega, by omega, by decide, by decide, rfl, fun b c s => ?_⟩
    refine wa_cons ?_
    refine WN.new (wn_list ?_)
    refine wa_nil ?_
    refine ⟨(by decide : 0 ≤ 1000), fun kf => ?_⟩
    refine wa_nil ?_
    refine ⟨_, _, rfl, ?_⟩
    refine wss_cons ?_
    refine ws_for a (fun j ρ2 m2 => ∃ (c s n : Int) (kept : List AV) (y4 y5 y6 y7 y8 y9 y10 : Option AV), (∀ A ∈ kept, KP C A) ∧ kept.length ≤ j * 100 ∧ m2 = boxC b c s n ++ (m' ++ [(kf, .l kept)]) ∧ ρ2 = [some (scr (ns.map AL.int)), some (AL.int i), some (val (.ref b)), some (val (.ref kf)), y4, y5, y6, y7, y8, y9, y10]) ?_
    refine wi_range1 a rfl Z.range ?_
    refine we_int ?_
    refine ⟨_, rfl, by decide, ?_⟩
    refine ⟨⟨c, s, 0, [], _, _, _, _, _, _, _, (fun A hA => by cases hA), Nat.zero_le _, List.append_assoc _ _ _, rfl⟩, fun j Bt ρ2 m2 hBt hW => ?_, fun ρ2 m2 hW => ?_⟩
    · obtain ⟨c1, s1, n1, kept, y4, y5, y6, y7, y8, y9, y10, hk, hkl, rfl, rfl⟩ := hW
      obtain ⟨hj4, _⟩ := rangeA_get hBt
      have hj4 : j < 4 := hj4
      refine wg_name a 4 rfl (.inl rfl) ?_
      refine wss_cons ?_
      refine ws_set a 5 rfl (.inl rfl) ?_
      refine we_call a FD (by decide) rfl ?_
      refine wa_cons ?_
      refine we_name a 2 rfl (.inl rfl) rfl ?_
      refine wa_cons ?_
      refine we_int ?_
      refine wa_cons ?_
      refine we_int ?_
      refine wa_nil ?_
      refine ⟨boxC b c1 s1 n1, _, rfl, b, c1, s1, n1, 4, 4, rfl, rfl, by decide, by decide, by decide, fun d zs hs c2 s2 n2 M hl hbd => ?_⟩
      have l2 := M.l2
      have l9 := M.l9
      have d4 := M.d4
      have exz : (xz zs).length = zs.length := List.length_map _
      have hql : (hs.map qOf).length = hs.length := List.length_map _
      rw [told_x]
      refine wss_cons ?_
      refine ws_set a 6 rfl (.inl rfl) ?_
      refine we_call a FM (by decide) rfl ?_
      refine wa_cons ?_
      refine we_name a 5 rfl (.inl rfl) rfl ?_
      refine wa_nil ?_
      refine ⟨[], _, rfl, d, xz zs, hs, rfl, M.mx, by omega, ?_⟩
      refine wss_cons ?_
      refine ws_for a (fun i3 ρ2 m2 => ∃ (kept : List AV) (y7 y8 y9 y10 : Option AV), (∀ A ∈ kept, KP C A) ∧ kept.length ≤ j * 100 + i3 ∧ m2 = boxC b c2 s2 n2 ++ (m' ++ [(kf, .l kept)]) ∧ ρ2 = [some (scr (ns.map AL.int)), some (AL.int i), some (val (.ref b)), some (val (.ref kf)), some Bt, some (toldX d (xz zs) hs), some (bendV C d (qx (xz zs)) (hs.map qOf)), y7, y8, y9, y10]) ?_
      refine wi_list ?_
      refine we_call a FT (by decide) rfl ?_
      refine wa_cons ?_
      refine we_name a 5 rfl (.inl rfl) rfl ?_
      refine wa_cons ?_
      refine we_int ?_
      refine wa_nil ?_
      refine ⟨[], _, rfl, d, zs, hs, 4, by rw [told_x]; rfl, rfl, M, by decide, by decide, fun ts htl ht => ?_⟩
      refine ⟨_, rfl, ?_⟩
      refine ⟨⟨kept, _, _, _, _, hk, by omega, rfl, rfl⟩, fun j3 B ρ3 m3 hB hW => ?_, fun ρ3 m3 hW => ?_⟩
      · obtain ⟨kept, y7, y8, y9, y10, hk, hkl, rfl, rfl⟩ := hW
        obtain ⟨t, htt, rfl⟩ := rv_get hB
        have T := ht t (List.mem_of_getElem? htt)
        have hj3 : j3 < ts.length := (List.getElem?_eq_some_iff.mp htt).1
        obtain ⟨v, h, V⟩ := wv_at M T hl hbd
        have sh : ShowD (qr v) := show_q (V.vb.mono (by decide)) (Nat.le_refl 1900)
        refine wg_name a 7 rfl (.inl rfl) ?_
        refine wss_cons ?_
        refine ws_set a 8 rfl (.inl rfl) ?_
        refine we_call a FO (by decide) rfl ?_
        refine wa_cons ?_
        refine we_name a 5 rfl (.inl rfl) rfl ?_
        refine wa_cons ?_
        refine we_name a 7 rfl (.inl rfl) rfl ?_
        refine wa_nil ?_
        refine ⟨[], boxC b c2 s2 n2 ++ (m' ++ [(kf, .l kept)]), rfl, d, xz zs, hs, t, v, h, 11, 10, rfl, rfl, V, ?_⟩
        refine wss_cons ?_
        refine ws_if ?_
        refine wt_cmp op_ne abs_neS rfl ?_
        refine b_repr a hG hrp rfl ?_
        refine wa_cons ?_
        refine we_call a FV (by decide) rfl ?_
        refine wa_cons ?_
        refine we_name a 6 rfl (.inl rfl) rfl ?_
        refine wa_cons ?_
        refine we_name a 7 rfl (.inl rfl) rfl ?_
        refine wa_nil ?_
        refine ⟨[], boxC b c2 s2 n2 ++ (m' ++ [(kf, .l kept)]), rfl, d, _, hs.map qOf, _, qOf t, _, rfl, qO_norm _, by rw [hql]; omega, norm_v (qOf_norm t), V.va, ?_⟩
        refine wa_nil ?_
        refine ⟨_, qr v, rfl, dat_q, sh, ?_⟩
        refine b_repr a hG hrp rfl ?_
        refine wa_cons ?_
        refine we_name a 8 rfl (.inl rfl) rfl ?_
        refine wa_nil ?_
        refine ⟨_, qr v, rfl, dat_q, sh, ?_⟩
        refine ⟨_, _, rfl, rfl, _, rfl, ?_⟩
        refine brF (by simp) ?_
        refine wss_nil ?_
        refine wss_cons ?_
        refine ws_if ?_
        refine WT.mono' (Kb := fun b' m4 => b' = false ∧ m4 = boxC b c2 s2 n2 ++ (m' ++ [(kf, .l kept)])) ?_ (fun b' m4 ⟨eb, e4⟩ => ?_)
        · refine wt_of ?_
          refine ww_and ?_
          refine wt_icmp op_eqI rfl ?_
          refine we_ix ?_
          refine we_name a 7 rfl (.inl rfl) rfl ?_
          refine we_int ?_
          refine ⟨_, _, _, isSq_tup, rfl, rfl, ?_⟩
          refine we_int ?_
          refine ⟨_, _, rfl, rfl, ?_⟩
          refine br (fun g1 => ?_) (fun g1 => ⟨rfl, rfl⟩)
          have g1 : (qOf t).2 = 1 := of_decide_eq_true g1
          have et : qOf t = ((qOf t).1, 1) := by rw [← g1]
          refine ww_and1 ?_
          refine wt_cmp (op_neD (hu_at a)) abs_neD rfl ?_
          refine we_call a FV (by decide) rfl ?_
          refine wa_cons ?_
          refine we_name a 6 rfl (.inl rfl) rfl ?_
          refine wa_cons ?_
          refine we_ix ?_
          refine we_name a 7 rfl (.inl rfl) rfl ?_
          refine we_int ?_
          refine ⟨_, _, _, isSq_tup, rfl, rfl, ?_⟩
          refine wa_nil ?_
          refine ⟨[], boxC b c2 s2 n2 ++ (m' ++ [(kf, .l kept)]), rfl, d, _, hs.map qOf, _, ((qOf t).1, 1), _, rfl, qO_norm _, by rw [hql]; omega, .int _, by rw [← et]; exact V.va, ?_⟩
          refine we_name a 8 rfl (.inl rfl) rfl ?_
          refine ⟨qr v, qr v, dat_q, dat_q, rfl, rfl, _, rfl, ?_⟩
          exact ⟨by rw [eqvR]; rfl, rfl⟩
        subst eb
        subst m4
        refine brF rfl ?_
        refine wss_nil ?_
        refine wss_cons ?_
        refine ws_expr ?_
        refine we_append ?_
        refine we_name a 3 rfl (.inl rfl) rfl ?_
        refine ⟨kf, _, boxC b c2 s2 n2 ++ m', [], rfl, (List.append_assoc _ _ _).symm, ?_⟩
        refine we_tup ?_
        refine wa_cons ?_
        refine we_name a 6 rfl (.inl rfl) rfl ?_
        refine wa_cons ?_
        refine we_name a 7 rfl (.inl rfl) rfl ?_
        refine wa_cons ?_
        refine we_name a 8 rfl (.inl rfl) rfl ?_
        refine wa_nil ?_
        refine ⟨(by decide : 3 ≤ 1000), ?_⟩
        refine ⟨kept, boxC b c2 s2 n2 ++ m', [], (List.append_assoc _ _ _).symm, by omega, ?_⟩
        refine wss_nil ?_
        refine ⟨_, _, _, _, _, fun A hA => ?_, ?_, List.append_assoc _ _ _, rfl⟩
        · rcases List.mem_append.mp hA with hA | hA
          · exact hk A hA
          · rw [List.mem_singleton.mp hA]
            exact ⟨d, xz zs, hs, t, v, rfl, by omega, V.va⟩
        · rw [List.length_append]
          show kept.length + 1 ≤ _
          omega
      obtain ⟨kept, y7, y8, y9, y10, hk, hkl, rfl, rfl⟩ := hW
      rw [List.length_map] at hkl
      obtain ⟨v1, k1, V1⟩ := wv_at M (tok_first M) hl hbd
      obtain ⟨v2, k2, V2⟩ := wv_at M (tok_last M) hl hbd
      have f1 := V1.first rfl
      have f2 := V2.last rfl
      refine wss_cons ?_
      refine ws_if ?_
      refine wt_of ?_
      refine ww_or ?_
      refine wt_cmp (op_neD (hu_at a)) abs_neD rfl ?_
      refine we_call a FV (by decide) rfl ?_
      refine wa_cons ?_
      refine we_name a 6 rfl (.inl rfl) rfl ?_
      refine wa_cons ?_
      refine we_ix ?_
      refine we_ix ?_
      refine we_name a 5 rfl (.inl rfl) rfl ?_
      refine we_int ?_
      refine ⟨_, _, _, isSq_tup, rfl, rfl, ?_⟩
      refine we_int ?_
      refine ⟨_, _, _, isSq_lst, rfl, atR (n := 0) (by omega) rfl, ?_⟩
      refine wa_nil ?_
      refine ⟨[], boxC b c2 s2 n2 ++ (m' ++ [(kf, .l kept)]), rfl, d, _, hs.map qOf, _, _, _, rfl, qO_norm _, by rw [hql]; omega, norm_v (qOf_norm _), V1.va, ?_⟩
      refine we_ix ?_
      refine we_ix ?_
      refine we_name a 5 rfl (.inl rfl) rfl ?_
      refine we_int ?_
      refine ⟨_, _, _, isSq_tup, rfl, rfl, ?_⟩
      refine we_int ?_
      refine ⟨_, _, _, isSq_lst, rfl, atR (n := 0) (by omega) rfl, ?_⟩
      refine ⟨qr v1, qr (hs.getD 0 0), dat_q, dat_q, rfl, rfl, _, rfl, ?_⟩
      refine brF (by rw [← f1, eqvR]; rfl) ?_
      refine ww_or1 ?_
      refine wt_cmp (op_neD (hu_at a)) abs_neD rfl ?_
      refine we_call a FV (by decide) rfl ?_
      refine wa_cons ?_
      refine we_name a 6 rfl (.inl rfl) rfl ?_
      refine wa_cons ?_
      refine we_ix ?_
      refine we_ix ?_
      refine we_name a 5 rfl (.inl rfl) rfl ?_
      refine we_int ?_
      refine ⟨_, _, _, isSq_tup, rfl, rfl, ?_⟩
      refine we_neg ?_
      refine we_int ?_
      refine ⟨_, rfl, ?_⟩
      refine ⟨_, _, _, isSq_lst, rfl, atR_last (by omega), ?_⟩
      refine wa_nil ?_
      refine ⟨[], boxC b c2 s2 n2 ++ (m' ++ [(kf, .l kept)]), rfl, d, _, hs.map qOf, _, _, _, rfl, qO_norm _, by rw [hql]; omega, norm_v (qOf_norm _), V2.va, ?_⟩
      refine we_ix ?_
      refine we_ix ?_
      refine we_name a 5 rfl (.inl rfl) rfl ?_
      refine we_int ?_
      refine ⟨_, _, _, isSq_tup, rfl, rfl, ?_⟩
      refine we_neg ?_
      refine we_int ?_
      refine ⟨_, rfl, ?_⟩
      refine ⟨_, _, _, isSq_lst, rfl, atR_last (by omega), ?_⟩
      refine ⟨qr v2, qr (hs.getD (hs.length - 1) 0), dat_q, dat_q, rfl, rfl, _, rfl, ?_⟩
      refine brF (by rw [← f2, eqvR]; rfl) ?_
      refine wss_nil ?_
      refine wss_nil ?_
      exact ⟨c2, s2, n2, kept, _, _, _, _, _, _, _, hk, by omega, rfl, rfl⟩
    · obtain ⟨c1, s1, n1, kept, y4, y5, y6, y7, y8, y9, y10, hk, hkl, rfl, rfl⟩ := hW
      rw [rangeA_len] at hkl
      have hkl : kept.length ≤ 400 := Nat.le_trans hkl (by decide)
      generalize hM0 : boxC b c1 s1 n1 ++ (m' ++ [(kf, .l kept)]) = M0
      have set9 : ∀ {e : Expr} {pos pos' : Pos} {ρ : Rho} {m : Mem} {E : EndsA}, swapsWith e (some (.Name "_law_far" pos')) pos.line X.env = pure false → WE X e ρ m (fun A m1 => E.nx (ρ.set 9 (some A)) m1) → WS X (.Assign [.Name "_law_far" pos'] e pos) ρ m E := fun hs h => ws_set a 9 rfl (.inl rfl) h (hs := hs)
      have set10 : ∀ {e : Expr} {pos pos' : Pos} {ρ : Rho} {m : Mem} {E : EndsA}, swapsWith e (some (.Name "_law_wide" pos')) pos.line X.env = pure false → WE X e ρ m (fun A m1 => E.nx (ρ.set 10 (some A)) m1) → WS X (.Assign [.Name "_law_wide" pos'] e pos) ρ m E := fun hs h => ws_set a 10 rfl (.inl rfl) h (hs := hs)
      refine wss_cons ?_
      refine set9 ?_ ?_
      · rfl
      refine we_tup ?_
      refine wa_cons ?_
      refine we_int ?_
      refine wa_cons ?_
      refine WN.we (wn_list ?_)
      refine wa_cons ?_
      refine we_tup ?_
      refine wa_cons ?_
      refine we_int ?_
      refine wa_cons ?_
      refine we_int ?_
      refine wa_nil ?_
      refine ⟨(by decide : 2 ≤ 1000), ?_⟩
      refine wa_cons ?_
      refine we_tup ?_
      refine wa_cons ?_
      refine we_int ?_
      refine wa_cons ?_
      refine we_int ?_
      refine wa_nil ?_
      refine ⟨(by decide : 2 ≤ 1000), ?_⟩
      refine wa_nil ?_
      refine ⟨(by decide : 2 ≤ 1000), ?_⟩
      refine wa_cons ?_
      refine WN.we (wn_list ?_)
      refine wa_cons ?_
      refine we_tup ?_
      refine wa_cons ?_
      refine we_int ?_
      refine wa_cons ?_
      refine we_int ?_
      refine wa_nil ?_
      refine ⟨(by decide : 2 ≤ 1000), ?_⟩
      refine wa_nil ?_
      refine ⟨(by decide : 1 ≤ 1000), ?_⟩
      refine wa_nil ?_
      refine ⟨(by decide : 3 ≤ 1000), ?_⟩
      refine wss_cons ?_
      refine set10 ?_ ?_
      · rfl
      refine we_tup ?_
      refine wa_cons ?_
      refine we_int ?_
      refine wa_cons ?_
      refine WN.we (wn_list ?_)
      refine wa_cons ?_
      refine we_tup ?_
      refine wa_cons ?_
      refine we_sub ?_
      refine we_int ?_
      refine we_int ?_
      refine ⟨_, _, rfl, rfl, ?_⟩
      refine wa_cons ?_
      refine we_int ?_
      refine wa_nil ?_
      refine ⟨(by decide : 2 ≤ 1000), ?_⟩
      refine wa_cons ?_
      refine we_tup ?_
      refine wa_cons ?_
      refine we_int ?_
      refine wa_cons ?_
      refine we_int ?_
      refine wa_nil ?_
      refine ⟨(by decide : 2 ≤ 1000), ?_⟩
      refine wa_nil ?_
      refine ⟨(by decide : 2 ≤ 1000), ?_⟩
      refine wa_cons ?_
      refine WN.we (wn_list ?_)
      refine wa_cons ?_
      refine we_tup ?_
      refine wa_cons ?_
      refine we_int ?_
      refine wa_cons ?_
      refine we_int ?_
      refine wa_nil ?_
      refine ⟨(by decide : 2 ≤ 1000), ?_⟩
      refine wa_cons ?_
      refine we_tup ?_
      refine wa_cons ?_
      refine we_sub ?_
      refine we_int ?_
      refine we_int ?_
      refine ⟨_, _, rfl, rfl, ?_⟩
      refine wa_cons ?_
      refine we_int ?_
      refine wa_nil ?_
      refine ⟨(by decide : 2 ≤ 1000), ?_⟩
      refine wa_cons ?_
      refine we_tup ?_
      refine wa_cons ?_
      refine we_int ?_
      refine wa_cons ?_
      refine we_int ?_
      refine wa_nil ?_
      refine ⟨(by decide : 2 ≤ 1000), ?_⟩
      refine wa_nil ?_
      refine ⟨(by decide : 3 ≤ 1000), ?_⟩
      refine wa_nil ?_
      refine ⟨(by decide : 3 ≤ 1000), ?_⟩
      refine wss_cons ?_
      refine ws_for a (fun j ρ2 m2 => ∃ (y4 y5 y6 y7 y8 y9 y10 : Option AV), m2 = M0 ∧ ρ2 = [some (scr (ns.map AL.int)), some (AL.int i), some (val (.ref b)), some (val (.ref kf)), y4, y5, y6, y7, y8, y9, y10]) ?_
      refine wi_tup ?_
      refine we_tup ?_
      refine wa_cons ?_
      refine we_name a 9 rfl (.inl rfl) rfl ?_
      refine wa_cons ?_
      refine we_name a 10 rfl (.inl rfl) rfl ?_
      refine wa_nil ?_
      refine ⟨(by decide : 2 ≤ 1000), ?_⟩
      refine ⟨_, rfl, ?_⟩
      refine ⟨⟨_, _, _, _, _, _, _, rfl, rfl⟩, fun j2 A ρ2 m2 hA hW => ?_, fun ρ2 m2 hW => ?_⟩
      · obtain ⟨y4, y5, y6, y7, y8, y9, y10, e2, rfl⟩ := hW
        subst m2
        obtain ⟨d, xs, hs, v, k, qb, bb, rfl, V⟩ := far_wide hA
        have hl := V.hl
        have l9 := V.M.l9
        have d4 := V.M.d4
        refine wg_name a 5 rfl (.inl rfl) ?_
        refine wss_cons ?_
        refine ws_if ?_
        refine wt_cmp (op_neD (hu_at a)) abs_neD rfl ?_
        refine we_call a FV (by decide) rfl ?_
        refine wa_cons ?_
        refine we_call a FM (by decide) rfl ?_
        refine wa_cons ?_
        refine we_name a 5 rfl (.inl rfl) rfl ?_
        refine wa_nil ?_
        refine ⟨[], _, rfl, d, xs, hs, rfl, V.M, hl, ?_⟩
        refine wa_cons ?_
        refine we_tup ?_
        refine wa_cons ?_
        refine we_int ?_
        refine wa_cons ?_
        refine we_int ?_
        refine wa_nil ?_
        refine ⟨(by decide : 2 ≤ 1000), ?_⟩
        rw [← rv_is q_far]
        refine wa_nil ?_
        refine ⟨[], _, rfl, d, _, hs.map qOf, _, qOf tFar, _, rfl, qO_norm _, by rw [List.length_map]; omega, norm_v (qOf_norm _), V.va, ?_⟩
        refine we_call a FO (by decide) rfl ?_
        refine wa_cons ?_
        refine we_name a 5 rfl (.inl rfl) rfl ?_
        refine wa_cons ?_
        refine we_tup ?_
        refine wa_cons ?_
        refine we_int ?_
        refine wa_cons ?_
        refine we_int ?_
        refine wa_nil ?_
        refine ⟨(by decide : 2 ≤ 1000), ?_⟩
        rw [← rv_is q_far]
        refine wa_nil ?_
        refine ⟨[], _, rfl, d, xs, hs, tFar, v, k, qb, bb, rfl, rfl, V, ?_⟩
        refine ⟨qr v, qr v, dat_q, dat_q, rfl, rfl, _, rfl, ?_⟩
        refine brF (by rw [eqvR]; rfl) ?_
        refine wss_nil ?_
        refine wss_nil ?_
        exact ⟨_, _, _, _, _, _, _, rfl, rfl⟩
      obtain ⟨y4, y5, y6, y7, y8, y9, y10, e2, rfl⟩ := hW
      subst m2
      refine wss_freeze 3 (m6 := boxC b c1 s1 n1 ++ m') (m7 := []) (by rw [← hM0, List.append_assoc]) rfl ?_
      generalize hM1 : boxC b c1 s1 n1 ++ m' ++ [] = M1
      refine wss_cons ?_
      refine ws_for a (fun j ρ2 m2 => ∃ (y4 y5 y6 y7 y8 y9 y10 : Option AV), m2 = M1 ∧ ρ2 = [some (scr (ns.map AL.int)), some (AL.int i), some (val (.ref b)), some (lst kept), y4, y5, y6, y7, y8, y9, y10]) ?_
      refine wi_list ?_
      refine we_name a 3 rfl (.inl rfl) rfl ?_
      refine ⟨_, rfl, ?_⟩
      refine ⟨⟨_, _, _, _, _, _, _, rfl, rfl⟩, fun j2 A ρ2 m2 hA hW => ?_, fun ρ2 m2 hW => ?_⟩
      · obtain ⟨y4, y5, y6, y7, y8, y9, y10, e2, rfl⟩ := hW
        subst m2
        obtain ⟨d, xs, hs, t, v, rfl, hl, hv⟩ := hk A (List.mem_of_getElem? hA)
        refine wg_tup a [(6, "_law_made_here", _), (7, "_law_time", _), (8, "_law_due", _)] rfl rfl rfl (by decide) rfl rfl ?_
        refine wss_cons ?_
        refine ws_if ?_
        refine wt_cmp (op_neD (hu_at a)) abs_neD rfl ?_
        refine we_call a FV (by decide) rfl ?_
        refine wa_cons ?_
        refine we_name a 6 rfl (.inl rfl) rfl ?_
        refine wa_cons ?_
        refine we_name a 7 rfl (.inl rfl) rfl ?_
        refine wa_nil ?_
        refine ⟨[], _, rfl, d, _, hs.map qOf, _, qOf t, _, rfl, qO_norm _, by rw [List.length_map]; omega, norm_v (qOf_norm _), hv, ?_⟩
        refine we_name a 8 rfl (.inl rfl) rfl ?_
        refine ⟨qr v, qr v, dat_q, dat_q, rfl, rfl, _, rfl, ?_⟩
        refine brF (by rw [eqvR]; rfl) ?_
        refine wss_nil ?_
        refine wss_nil ?_
        exact ⟨_, _, _, _, _, _, _, rfl, rfl⟩
      obtain ⟨y4, y5, y6, y7, y8, y9, y10, e2, rfl⟩ := hW
      refine wss_nil ?_
      exact ⟨by omega, _, _, _, _, _, _, _, _, _, _, rfl⟩
  · obtain ⟨_, y1, y2, y3, y4, y5, y6, y7, y8, y9, y10, rfl⟩ := hW
    refine wss_cons ?_
    refine ws_ret ?_
    refine we_bool ?_
    exact bodyE.ret (q _)
end
end HB
namespace HB
open PySem PySem.Spec L2 AL
open PyProof.Rows hiding St
theorem kpair_of {K : PySem.W.Frag} {h : Heap} {mg : Str → Option Value} {x : Str} {z : Addr} {p q : Int} {d : Option Addr} {n : Nat} {sl : Array (Option Value)} {t1 t2 : Tok} (X : K.In h) (G : h.Ns mainGlobals mg) (e : PySem.W.nsIn K mainGlobals x = some (some (.ref z))) (l : K.lookup z = some ⟨.type "tuple", d, .seq (Array.mk [.int p t1, .int q t2]) n, sl⟩) : KPair K mg x (p, q) :=
  ⟨z, PySem.W.mg_of X G e, _, _, _, l, rfl, rfl, (by show 2 ≤ sizeLine; decide), .cons ⟨_, rfl⟩ (.cons ⟨_, rfl⟩ .nil)⟩
theorem memV_nil {K : PySem.W.Frag} {H : Hp} : MemV K [] [] H := ⟨fun _ _ z => (by cases z), fun _ _ z => (by cases z), List.nodup_nil⟩
theorem allV_ints {K : PySem.W.Frag} {M : List Addr} {H : Hp} : ∀ ns : List Int, AllV K M H (ns.map AL.int) (ns.map V.int)
  | [] => .nil
  | _ :: ns => .cons rfl (allV_ints ns)
theorem scr_of {K : PySem.W.Frag} {H : Hp} {a : Addr} {xs : List V} (h : SqL K H a xs) : ScrAt K [] H a xs := by
  rcases h with h | h
  · exact .inl ⟨h, List.not_mem_nil⟩
  · exact .inr h
theorem sp_law {K : PySem.W.Frag} {H : Hp} {a : Addr} {ns : List Int} {E : XK} (h : SqL K H a (ns.map V.int)) : spOf K C_law [.ref a] H (fun v _ => v = .bl true) E :=
  ⟨[], [scr (ns.map AL.int)], [], fun A _ => A = AL.bool true, ⟨ns, rfl, rfl, fun _ => rfl⟩, memV_nil, .cons ⟨a, _, rfl, scr_of h, allV_ints ns⟩ .nil, fun A m' v H' e _ _ r => by subst e; exact r⟩
set_option maxHeartbeats 0 in
theorem all_mk {l : PySem.W.OpenLaw} {w : World} {K : PySem.W.Frag} {h : Heap} {mg : Str → Option Value} {fa C zz zo f0 f1 f2 f3 f4 f5 f6 f7 f8 f9 f10 f11 f12 f13 f14 f15 f16 f17 f18 f19 f20 f21 f22 f23 f24 f25 f26 f27 f28 f29 f30 f31 f32 f33 f34 f35 f36 f37 f38 f39 f40 f41 f42 f43 f44 : Addr} (X : K.In h) (G : h.Ns mainGlobals mg) (hfa : mg "law" = some (.ref fa))
    {od0 an0 od1 an1 od2 an2 od3 an3 od4 an4 od5 an5 od6 an6 od7 an7 od8 an8 od9 an9 od10 an10 od11 an11 od12 an12 od13 an13 od14 an14 od15 an15 od16 an16 od17 an17 od18 an18 od19 an19 od20 an20 od21 an21 od22 an22 od23 an23 od24 an24 od25 an25 od26 an26 od27 an27 od28 an28 od29 an29 od30 an30 od31 an31 od32 an32 od33 an33 od34 an34 od35 an35 od36 an36 od37 an37 od38 an38 od39 an39 od40 an40 od41 an41 od42 an42 od43 an43 od44 an44 dzz dzo : Option Addr} {sl0 sl1 sl2 sl3 sl4 sl5 sl6 sl7 sl8 sl9 sl10 sl11 sl12 sl13 sl14 sl15 sl16 sl17 sl18 sl19 sl20 sl21 sl22 sl23 sl24 sl25 sl26 sl27 sl28 sl29 sl30 sl31 sl32 sl33 sl34 sl35 sl36 sl37 sl38 sl39 sl40 sl41 sl42 sl43 sl44 ezz ezo : Array (Option Value)} {mzz mzo : Nat} {szz tzz szo tzo : Tok} {oc0 kV0 dc0 pm0 cd0 ct0 oc1 kV1 dc1 pm1 cd1 ct1 oc2 kV2 dc2 pm2 cd2 ct2 oc3 kV3 dc3 pm3 cd3 ct3 oc4 kV4 dc4 pm4 cd4 ct4 oc5 kV5 dc5 pm5 cd5 ct5 oc6 kV6 dc6 pm6 cd6 ct6 oc7 kV7 dc7 pm7 cd7 ct7 oc8 kV8 dc8 pm8 cd8 ct8 oc9 kV9 dc9 pm9 cd9 ct9 oc10 kV10 dc10 pm10 cd10 ct10 oc11 kV11 dc11 pm11 cd11 ct11 oc12 kV12 dc12 pm12 cd12 ct12 oc13 kV13 dc13 pm13 cd13 ct13 oc14 kV14 dc14 pm14 cd14 ct14 oc15 kV15 dc15 pm15 cd15 ct15 oc16 kV16 dc16 pm16 cd16 ct16 oc17 kV17 dc17 pm17 cd17 ct17 oc18 kV18 dc18 pm18 cd18 ct18 oc19 kV19 dc19 pm19 cd19 ct19 oc20 kV20 dc20 pm20 cd20 ct20 oc21 kV21 dc21 pm21 cd21 ct21 oc22 kV22 dc22 pm22 cd22 ct22 oc23 kV23 dc23 pm23 cd23 ct23 oc24 kV24 dc24 pm24 cd24 ct24 oc25 kV25 dc25 pm25 cd25 ct25 oc26 kV26 dc26 pm26 cd26 ct26 oc27 kV27 dc27 pm27 cd27 ct27 oc28 kV28 dc28 pm28 cd28 ct28 oc29 kV29 dc29 pm29 cd29 ct29 oc30 kV30 dc30 pm30 cd30 ct30 oc31 kV31 dc31 pm31 cd31 ct31 oc32 kV32 dc32 pm32 cd32 ct32 oc33 kV33 dc33 pm33 cd33 ct33 oc34 kV34 dc34 pm34 cd34 ct34 oc35 kV35 dc35 pm35 cd35 ct35 oc36 kV36 dc36 pm36 cd36 ct36 oc37 kV37 dc37 pm37 cd37 ct37 oc38 kV38 dc38 pm38 cd38 ct38 oc39 kV39 dc39 pm39 cd39 ct39 oc40 kV40 dc40 pm40 cd40 ct40 oc41 kV41 dc41 pm41 cd41 ct41 oc42 kV42 dc42 pm42 cd42 ct42 oc43 kV43 dc43 pm43 cd43 ct43 oc44 kV44 dc44 pm44 cd44 ct44 : Value}
    (aC : PySem.W.nsIn K mainGlobals "Bend" = some (some (.ref C)))
    (a0 : PySem.W.nsIn K mainGlobals "is_whole" = some (some (.ref f0)))
    (l0 : K.lookup f0 = some ⟨oc0, od0, .func (PySem.W.fnOf "is_whole" "is_whole" (defArgs s_is_whole) (defBody s_is_whole) (defScope s_is_whole) .none kV0 dc0 pm0 an0 cd0 ct0), sl0⟩)
    (c0 : PySem.W.codeIn K cd0 "is_whole" = true)
    (k0 : PySem.W.keepIn K (.ref f0) = true)
    (a1 : PySem.W.nsIn K mainGlobals "is_sequence" = some (some (.ref f1)))
    (l1 : K.lookup f1 = some ⟨oc1, od1, .func (PySem.W.fnOf "is_sequence" "is_sequence" (defArgs s_is_sequence) (defBody s_is_sequence) (defScope s_is_sequence) .none kV1 dc1 pm1 an1 cd1 ct1), sl1⟩)
    (c1 : PySem.W.codeIn K cd1 "is_sequence" = true)
    (k1 : PySem.W.keepIn K (.ref f1) = true)
    (a2 : PySem.W.nsIn K mainGlobals "is_value" = some (some (.ref f2)))
    (l2 : K.lookup f2 = some ⟨oc2, od2, .func (PySem.W.fnOf "is_value" "is_value" (defArgs s_is_value) (defBody s_is_value) (defScope s_is_value) .none kV2 dc2 pm2 an2 cd2 ct2), sl2⟩)
    (c2 : PySem.W.codeIn K cd2 "is_value" = true)
    (k2 : PySem.W.keepIn K (.ref f2) = true)
    (a3 : PySem.W.nsIn K mainGlobals "are_values" = some (some (.ref f3)))
    (l3 : K.lookup f3 = some ⟨oc3, od3, .func (PySem.W.fnOf "are_values" "are_values" (defArgs s_are_values) (defBody s_are_values) (defScope s_are_values) .none kV3 dc3 pm3 an3 cd3 ct3), sl3⟩)
    (c3 : PySem.W.codeIn K cd3 "are_values" = true)
    (k3 : PySem.W.keepIn K (.ref f3) = true)
    (a4 : PySem.W.nsIn K mainGlobals "pair" = some (some (.ref f4)))
    (l4 : K.lookup f4 = some ⟨oc4, od4, .func (PySem.W.fnOf "pair" "pair" (defArgs s_pair) (defBody s_pair) (defScope s_pair) .none kV4 dc4 pm4 an4 cd4 ct4), sl4⟩)
    (c4 : PySem.W.codeIn K cd4 "pair" = true)
    (k4 : PySem.W.keepIn K (.ref f4) = true)
    (a5 : PySem.W.nsIn K mainGlobals "pairs" = some (some (.ref f5)))
    (l5 : K.lookup f5 = some ⟨oc5, od5, .func (PySem.W.fnOf "pairs" "pairs" (defArgs s_pairs) (defBody s_pairs) (defScope s_pairs) .none kV5 dc5 pm5 an5 cd5 ct5), sl5⟩)
    (c5 : PySem.W.codeIn K cd5 "pairs" = true)
    (k5 : PySem.W.keepIn K (.ref f5) = true)
    (a6 : PySem.W.nsIn K mainGlobals "ratio" = some (some (.ref f6)))
    (l6 : K.lookup f6 = some ⟨oc6, od6, .func (PySem.W.fnOf "ratio" "ratio" (defArgs s_ratio) (defBody s_ratio) (defScope s_ratio) .none kV6 dc6 pm6 an6 cd6 ct6), sl6⟩)
    (c6 : PySem.W.codeIn K cd6 "ratio" = true)
    (k6 : PySem.W.keepIn K (.ref f6) = true)
    (a7 : PySem.W.nsIn K mainGlobals "added" = some (some (.ref f7)))
    (l7 : K.lookup f7 = some ⟨oc7, od7, .func (PySem.W.fnOf "added" "added" (defArgs s_added) (defBody s_added) (defScope s_added) .none kV7 dc7 pm7 an7 cd7 ct7), sl7⟩)
    (c7 : PySem.W.codeIn K cd7 "added" = true)
    (k7 : PySem.W.keepIn K (.ref f7) = true)
    (a8 : PySem.W.nsIn K mainGlobals "taken" = some (some (.ref f8)))
    (l8 : K.lookup f8 = some ⟨oc8, od8, .func (PySem.W.fnOf "taken" "taken" (defArgs s_taken) (defBody s_taken) (defScope s_taken) .none kV8 dc8 pm8 an8 cd8 ct8), sl8⟩)
    (c8 : PySem.W.codeIn K cd8 "taken" = true)
    (k8 : PySem.W.keepIn K (.ref f8) = true)
    (a9 : PySem.W.nsIn K mainGlobals "multiplied" = some (some (.ref f9)))
    (l9 : K.lookup f9 = some ⟨oc9, od9, .func (PySem.W.fnOf "multiplied" "multiplied" (defArgs s_multiplied) (defBody s_multiplied) (defScope s_multiplied) .none kV9 dc9 pm9 an9 cd9 ct9), sl9⟩)
    (c9 : PySem.W.codeIn K cd9 "multiplied" = true)
    (k9 : PySem.W.keepIn K (.ref f9) = true)
    (a10 : PySem.W.nsIn K mainGlobals "divided" = some (some (.ref f10)))
    (l10 : K.lookup f10 = some ⟨oc10, od10, .func (PySem.W.fnOf "divided" "divided" (defArgs s_divided) (defBody s_divided) (defScope s_divided) .none kV10 dc10 pm10 an10 cd10 ct10), sl10⟩)
    (c10 : PySem.W.codeIn K cd10 "divided" = true)
    (k10 : PySem.W.keepIn K (.ref f10) = true)
    (a11 : PySem.W.nsIn K mainGlobals "total" = some (some (.ref f11)))
    (l11 : K.lookup f11 = some ⟨oc11, od11, .func (PySem.W.fnOf "total" "total" (defArgs s_total) (defBody s_total) (defScope s_total) .none kV11 dc11 pm11 an11 cd11 ct11), sl11⟩)
    (c11 : PySem.W.codeIn K cd11 "total" = true)
    (k11 : PySem.W.keepIn K (.ref f11) = true)
    (a12 : PySem.W.nsIn K mainGlobals "is_less" = some (some (.ref f12)))
    (l12 : K.lookup f12 = some ⟨oc12, od12, .func (PySem.W.fnOf "is_less" "is_less" (defArgs s_is_less) (defBody s_is_less) (defScope s_is_less) .none kV12 dc12 pm12 an12 cd12 ct12), sl12⟩)
    (c12 : PySem.W.codeIn K cd12 "is_less" = true)
    (k12 : PySem.W.keepIn K (.ref f12) = true)
    (a13 : PySem.W.nsIn K mainGlobals "_are_marks" = some (some (.ref f13)))
    (l13 : K.lookup f13 = some ⟨oc13, od13, .func (PySem.W.fnOf "_are_marks" "_are_marks" (defArgs s_are_marks) (defBody s_are_marks) (defScope s_are_marks) .none kV13 dc13 pm13 an13 cd13 ct13), sl13⟩)
    (c13 : PySem.W.codeIn K cd13 "_are_marks" = true)
    (k13 : PySem.W.keepIn K (.ref f13) = true)
    (a14 : PySem.W.nsIn K mainGlobals "handle_count" = some (some (.ref f14)))
    (l14 : K.lookup f14 = some ⟨oc14, od14, .func (PySem.W.fnOf "handle_count" "handle_count" (defArgs s_handle_count) (defBody s_handle_count) (defScope s_handle_count) .none kV14 dc14 pm14 an14 cd14 ct14), sl14⟩)
    (c14 : PySem.W.codeIn K cd14 "handle_count" = true)
    (k14 : PySem.W.keepIn K (.ref f14) = true)
    (a15 : PySem.W.nsIn K mainGlobals "knots_of" = some (some (.ref f15)))
    (l15 : K.lookup f15 = some ⟨oc15, od15, .func (PySem.W.fnOf "knots_of" "knots_of" (defArgs s_knots_of) (defBody s_knots_of) (defScope s_knots_of) .none kV15 dc15 pm15 an15 cd15 ct15), sl15⟩)
    (c15 : PySem.W.codeIn K cd15 "knots_of" = true)
    (k15 : PySem.W.keepIn K (.ref f15) = true)
    (a16 : PySem.W.nsIn K mainGlobals "is_time" = some (some (.ref f16)))
    (l16 : K.lookup f16 = some ⟨oc16, od16, .func (PySem.W.fnOf "is_time" "is_time" (defArgs s_is_time) (defBody s_is_time) (defScope s_is_time) .none kV16 dc16 pm16 an16 cd16 ct16), sl16⟩)
    (c16 : PySem.W.codeIn K cd16 "is_time" = true)
    (k16 : PySem.W.keepIn K (.ref f16) = true)
    (a17 : PySem.W.nsIn K mainGlobals "time_within" = some (some (.ref f17)))
    (l17 : K.lookup f17 = some ⟨oc17, od17, .func (PySem.W.fnOf "time_within" "time_within" (defArgs s_time_within) (defBody s_time_within) (defScope s_time_within) .none kV17 dc17 pm17 an17 cd17 ct17), sl17⟩)
    (c17 : PySem.W.codeIn K cd17 "time_within" = true)
    (k17 : PySem.W.keepIn K (.ref f17) = true)
    (a18 : PySem.W.nsIn K mainGlobals "weights" = some (some (.ref f18)))
    (l18 : K.lookup f18 = some ⟨oc18, od18, .func (PySem.W.fnOf "weights" "weights" (defArgs s_weights) (defBody s_weights) (defScope s_weights) .none kV18 dc18 pm18 an18 cd18 ct18), sl18⟩)
    (c18 : PySem.W.codeIn K cd18 "weights" = true)
    (k18 : PySem.W.keepIn K (.ref f18) = true)
    (a19 : PySem.W.nsIn K mainGlobals "_knot_ahead" = some (some (.ref f19)))
    (l19 : K.lookup f19 = some ⟨oc19, od19, .func (PySem.W.fnOf "_knot_ahead" "_knot_ahead" (defArgs s_knot_ahead) (defBody s_knot_ahead) (defScope s_knot_ahead) .none kV19 dc19 pm19 an19 cd19 ct19), sl19⟩)
    (c19 : PySem.W.codeIn K cd19 "_knot_ahead" = true)
    (k19 : PySem.W.keepIn K (.ref f19) = true)
    (a20 : PySem.W.nsIn K mainGlobals "_weight" = some (some (.ref f20)))
    (l20 : K.lookup f20 = some ⟨oc20, od20, .func (PySem.W.fnOf "_weight" "_weight" (defArgs s_weight) (defBody s_weight) (defScope s_weight) .none kV20 dc20 pm20 an20 cd20 ct20), sl20⟩)
    (c20 : PySem.W.codeIn K cd20 "_weight" = true)
    (k20 : PySem.W.keepIn K (.ref f20) = true)
    (a21 : PySem.W.nsIn K mainGlobals "_share" = some (some (.ref f21)))
    (l21 : K.lookup f21 = some ⟨oc21, od21, .func (PySem.W.fnOf "_share" "_share" (defArgs s_share) (defBody s_share) (defScope s_share) .none kV21 dc21 pm21 an21 cd21 ct21), sl21⟩)
    (c21 : PySem.W.codeIn K cd21 "_share" = true)
    (k21 : PySem.W.keepIn K (.ref f21) = true)
    (a22 : PySem.W.nsIn K mainGlobals "_law_box" = some (some (.ref f22)))
    (l22 : K.lookup f22 = some ⟨oc22, od22, .func (PySem.W.fnOf "_law_box" "_law_box" (defArgs s_box) (defBody s_box) (defScope s_box) .none kV22 dc22 pm22 an22 cd22 ct22), sl22⟩)
    (c22 : PySem.W.codeIn K cd22 "_law_box" = true)
    (k22 : PySem.W.keepIn K (.ref f22) = true)
    (a23 : PySem.W.nsIn K mainGlobals "_law_take" = some (some (.ref f23)))
    (l23 : K.lookup f23 = some ⟨oc23, od23, .func (PySem.W.fnOf "_law_take" "_law_take" (defArgs s_take) (defBody s_take) (defScope s_take) .none kV23 dc23 pm23 an23 cd23 ct23), sl23⟩)
    (c23 : PySem.W.codeIn K cd23 "_law_take" = true)
    (k23 : PySem.W.keepIn K (.ref f23) = true)
    (a24 : PySem.W.nsIn K mainGlobals "_law_pick" = some (some (.ref f24)))
    (l24 : K.lookup f24 = some ⟨oc24, od24, .func (PySem.W.fnOf "_law_pick" "_law_pick" (defArgs s_pick) (defBody s_pick) (defScope s_pick) .none kV24 dc24 pm24 an24 cd24 ct24), sl24⟩)
    (c24 : PySem.W.codeIn K cd24 "_law_pick" = true)
    (k24 : PySem.W.keepIn K (.ref f24) = true)
    (a25 : PySem.W.nsIn K mainGlobals "_law_fr" = some (some (.ref f25)))
    (l25 : K.lookup f25 = some ⟨oc25, od25, .func (PySem.W.fnOf "_law_fr" "_law_fr" (defArgs s_fr) (defBody s_fr) (defScope s_fr) .none kV25 dc25 pm25 an25 cd25 ct25), sl25⟩)
    (c25 : PySem.W.codeIn K cd25 "_law_fr" = true)
    (k25 : PySem.W.keepIn K (.ref f25) = true)
    (a26 : PySem.W.nsIn K mainGlobals "_law_add" = some (some (.ref f26)))
    (l26 : K.lookup f26 = some ⟨oc26, od26, .func (PySem.W.fnOf "_law_add" "_law_add" (defArgs s_law_add) (defBody s_law_add) (defScope s_law_add) .none kV26 dc26 pm26 an26 cd26 ct26), sl26⟩)
    (c26 : PySem.W.codeIn K cd26 "_law_add" = true)
    (k26 : PySem.W.keepIn K (.ref f26) = true)
    (a27 : PySem.W.nsIn K mainGlobals "_law_sub" = some (some (.ref f27)))
    (l27 : K.lookup f27 = some ⟨oc27, od27, .func (PySem.W.fnOf "_law_sub" "_law_sub" (defArgs s_law_sub) (defBody s_law_sub) (defScope s_law_sub) .none kV27 dc27 pm27 an27 cd27 ct27), sl27⟩)
    (c27 : PySem.W.codeIn K cd27 "_law_sub" = true)
    (k27 : PySem.W.keepIn K (.ref f27) = true)
    (a28 : PySem.W.nsIn K mainGlobals "_law_mul" = some (some (.ref f28)))
    (l28 : K.lookup f28 = some ⟨oc28, od28, .func (PySem.W.fnOf "_law_mul" "_law_mul" (defArgs s_law_mul) (defBody s_law_mul) (defScope s_law_mul) .none kV28 dc28 pm28 an28 cd28 ct28), sl28⟩)
    (c28 : PySem.W.codeIn K cd28 "_law_mul" = true)
    (k28 : PySem.W.keepIn K (.ref f28) = true)
    (a29 : PySem.W.nsIn K mainGlobals "_law_div" = some (some (.ref f29)))
    (l29 : K.lookup f29 = some ⟨oc29, od29, .func (PySem.W.fnOf "_law_div" "_law_div" (defArgs s_law_div) (defBody s_law_div) (defScope s_law_div) .none kV29 dc29 pm29 an29 cd29 ct29), sl29⟩)
    (c29 : PySem.W.codeIn K cd29 "_law_div" = true)
    (k29 : PySem.W.keepIn K (.ref f29) = true)
    (a30 : PySem.W.nsIn K mainGlobals "_law_sum" = some (some (.ref f30)))
    (l30 : K.lookup f30 = some ⟨oc30, od30, .func (PySem.W.fnOf "_law_sum" "_law_sum" (defArgs s_law_sum) (defBody s_law_sum) (defScope s_law_sum) .none kV30 dc30 pm30 an30 cd30 ct30), sl30⟩)
    (c30 : PySem.W.codeIn K cd30 "_law_sum" = true)
    (k30 : PySem.W.keepIn K (.ref f30) = true)
    (a31 : PySem.W.nsIn K mainGlobals "_law_small" = some (some (.ref f31)))
    (l31 : K.lookup f31 = some ⟨oc31, od31, .func (PySem.W.fnOf "_law_small" "_law_small" (defArgs s_law_small) (defBody s_law_small) (defScope s_law_small) .none kV31 dc31 pm31 an31 cd31 ct31), sl31⟩)
    (c31 : PySem.W.codeIn K cd31 "_law_small" = true)
    (k31 : PySem.W.keepIn K (.ref f31) = true)
    (a32 : PySem.W.nsIn K mainGlobals "_law_marks" = some (some (.ref f32)))
    (l32 : K.lookup f32 = some ⟨oc32, od32, .func (PySem.W.fnOf "_law_marks" "_law_marks" (defArgs s_law_marks) (defBody s_law_marks) (defScope s_law_marks) .none kV32 dc32 pm32 an32 cd32 ct32), sl32⟩)
    (c32 : PySem.W.codeIn K cd32 "_law_marks" = true)
    (k32 : PySem.W.keepIn K (.ref f32) = true)
    (a33 : PySem.W.nsIn K mainGlobals "_law_drawn" = some (some (.ref f33)))
    (l33 : K.lookup f33 = some ⟨oc33, od33, .func (PySem.W.fnOf "_law_drawn" "_law_drawn" (defArgs s_law_drawn) (defBody s_law_drawn) (defScope s_law_drawn) .none kV33 dc33 pm33 an33 cd33 ct33), sl33⟩)
    (c33 : PySem.W.codeIn K cd33 "_law_drawn" = true)
    (k33 : PySem.W.keepIn K (.ref f33) = true)
    (a34 : PySem.W.nsIn K mainGlobals "_law_made" = some (some (.ref f34)))
    (l34 : K.lookup f34 = some ⟨oc34, od34, .func (PySem.W.fnOf "_law_made" "_law_made" (defArgs s_law_made) (defBody s_law_made) (defScope s_law_made) .none kV34 dc34 pm34 an34 cd34 ct34), sl34⟩)
    (c34 : PySem.W.codeIn K cd34 "_law_made" = true)
    (k34 : PySem.W.keepIn K (.ref f34) = true)
    (a35 : PySem.W.nsIn K mainGlobals "_law_knots" = some (some (.ref f35)))
    (l35 : K.lookup f35 = some ⟨oc35, od35, .func (PySem.W.fnOf "_law_knots" "_law_knots" (defArgs s_law_knots) (defBody s_law_knots) (defScope s_law_knots) .none kV35 dc35 pm35 an35 cd35 ct35), sl35⟩)
    (c35 : PySem.W.codeIn K cd35 "_law_knots" = true)
    (k35 : PySem.W.keepIn K (.ref f35) = true)
    (a36 : PySem.W.nsIn K mainGlobals "_law_below" = some (some (.ref f36)))
    (l36 : K.lookup f36 = some ⟨oc36, od36, .func (PySem.W.fnOf "_law_below" "_law_below" (defArgs s_law_below) (defBody s_law_below) (defScope s_law_below) .none kV36 dc36 pm36 an36 cd36 ct36), sl36⟩)
    (c36 : PySem.W.codeIn K cd36 "_law_below" = true)
    (k36 : PySem.W.keepIn K (.ref f36) = true)
    (a37 : PySem.W.nsIn K mainGlobals "_law_times" = some (some (.ref f37)))
    (l37 : K.lookup f37 = some ⟨oc37, od37, .func (PySem.W.fnOf "_law_times" "_law_times" (defArgs s_law_times) (defBody s_law_times) (defScope s_law_times) .none kV37 dc37 pm37 an37 cd37 ct37), sl37⟩)
    (c37 : PySem.W.codeIn K cd37 "_law_times" = true)
    (k37 : PySem.W.keepIn K (.ref f37) = true)
    (a38 : PySem.W.findIn K (.ref C) "__init__" = some (some (.ref f38)))
    (i38 : PySem.W.isFn K (.ref f38) = true)
    (l38 : K.lookup f38 = some ⟨oc38, od38, .func (PySem.W.fnOf "__init__" "Bend.__init__" (defArgs s_binit) (defBody s_binit) (defScope s_binit) .none kV38 dc38 pm38 an38 cd38 ct38), sl38⟩)
    (c38 : PySem.W.codeIn K cd38 "Bend.__init__" = true)
    (k38 : PySem.W.keepIn K (.ref f38) = true)
    (a39 : PySem.W.findIn K (.ref C) "__len__" = some (some (.ref f39)))
    (i39 : PySem.W.isFn K (.ref f39) = true)
    (l39 : K.lookup f39 = some ⟨oc39, od39, .func (PySem.W.fnOf "__len__" "Bend.__len__" (defArgs s_blen) (defBody s_blen) (defScope s_blen) .none kV39 dc39 pm39 an39 cd39 ct39), sl39⟩)
    (c39 : PySem.W.codeIn K cd39 "Bend.__len__" = true)
    (k39 : PySem.W.keepIn K (.ref f39) = true)
    (a40 : PySem.W.nsIn K mainGlobals "value" = some (some (.ref f40)))
    (l40 : K.lookup f40 = some ⟨oc40, od40, .func (PySem.W.fnOf "value" "value" (defArgs s_value) (defBody s_value) (defScope s_value) .none kV40 dc40 pm40 an40 cd40 ct40), sl40⟩)
    (c40 : PySem.W.codeIn K cd40 "value" = true)
    (k40 : PySem.W.keepIn K (.ref f40) = true)
    (a41 : PySem.W.nsIn K mainGlobals "_law_part" = some (some (.ref f41)))
    (l41 : K.lookup f41 = some ⟨oc41, od41, .func (PySem.W.fnOf "_law_part" "_law_part" (defArgs s_law_part) (defBody s_law_part) (defScope s_law_part) .none kV41 dc41 pm41 an41 cd41 ct41), sl41⟩)
    (c41 : PySem.W.codeIn K cd41 "_law_part" = true)
    (k41 : PySem.W.keepIn K (.ref f41) = true)
    (a42 : PySem.W.nsIn K mainGlobals "_law_weights" = some (some (.ref f42)))
    (l42 : K.lookup f42 = some ⟨oc42, od42, .func (PySem.W.fnOf "_law_weights" "_law_weights" (defArgs s_law_weights) (defBody s_law_weights) (defScope s_law_weights) .none kV42 dc42 pm42 an42 cd42 ct42), sl42⟩)
    (c42 : PySem.W.codeIn K cd42 "_law_weights" = true)
    (k42 : PySem.W.keepIn K (.ref f42) = true)
    (a43 : PySem.W.nsIn K mainGlobals "_law_worth" = some (some (.ref f43)))
    (l43 : K.lookup f43 = some ⟨oc43, od43, .func (PySem.W.fnOf "_law_worth" "_law_worth" (defArgs s_law_worth) (defBody s_law_worth) (defScope s_law_worth) .none kV43 dc43 pm43 an43 cd43 ct43), sl43⟩)
    (c43 : PySem.W.codeIn K cd43 "_law_worth" = true)
    (k43 : PySem.W.keepIn K (.ref f43) = true)
    (a44 : PySem.W.nsIn K mainGlobals "law" = some (some (.ref f44)))
    (l44 : K.lookup f44 = some ⟨oc44, od44, .func (PySem.W.fnOf "law" "law" (defArgs s_law) (defBody s_law) (defScope s_law) .none kV44 dc44 pm44 an44 cd44 ct44), sl44⟩)
    (c44 : PySem.W.codeIn K cd44 "law" = true)
    (k44 : PySem.W.keepIn K (.ref f44) = true)
    (pg : PySem.W.plainGet K C Str.empty = true)
    (hd : PySem.W.hasDictIn K C = true)
    (po : PySem.W.plainOver K C = true)
    (sa : PySem.W.findIn K (.ref C) "__setattr__" = some (some (.builtin "object.__setattr__")))
    (mk : PySem.W.makesIn K C = true)
    (kc : PySem.W.keepIn K (.ref C) = true)
    (ndegree : PySem.W.findIn K (.ref C) "degree" = some none)
    (nmarks : PySem.W.findIn K (.ref C) "marks" = some none)
    (nhandles : PySem.W.findIn K (.ref C) "handles" = some none)
    (aZERO : PySem.W.nsIn K mainGlobals "ZERO" = some (some (.ref zz)))
    (lZERO : K.lookup zz = some ⟨.type "tuple", dzz, .seq (Array.mk [.int 0 szz, .int 1 tzz]) mzz, ezz⟩)
    (aONE : PySem.W.nsIn K mainGlobals "ONE" = some (some (.ref zo)))
    (lONE : K.lookup zo = some ⟨.type "tuple", dzo, .seq (Array.mk [.int 1 szo, .int 1 tzo]) mzo, ezo⟩)
    (b_isinstance : PySem.W.nsIn K mainGlobals "isinstance" = some none)
    (b_len : PySem.W.nsIn K mainGlobals "len" = some none)
    (b_int : PySem.W.nsIn K mainGlobals "int" = some none)
    (b_bool : PySem.W.nsIn K mainGlobals "bool" = some none)
    (b_tuple : PySem.W.nsIn K mainGlobals "tuple" = some none)
    (b_list : PySem.W.nsIn K mainGlobals "list" = some none)
    (b_str : PySem.W.nsIn K mainGlobals "str" = some none)
    (b_all : PySem.W.nsIn K mainGlobals "all" = some none)
    (b_any : PySem.W.nsIn K mainGlobals "any" = some none)
    (b_abs : PySem.W.nsIn K mainGlobals "abs" = some none)
    (b_range : PySem.W.nsIn K mainGlobals "range" = some none)
    (b_zip : PySem.W.nsIn K mainGlobals "zip" = some none)
    (b_max : PySem.W.nsIn K mainGlobals "max" = some none)
    (b_min : PySem.W.nsIn K mainGlobals "min" = some none)
    (b_repr : PySem.W.nsIn K mainGlobals "repr" = some none)
    (b_gcd : PySem.W.nsIn K mainGlobals "gcd" = some (some (.builtin "math.gcd"))) :
    ∃ fd : FuncData, (∀ (s : Shared) (v : Value), BindsTo s fd ⟨[v], []⟩ [("_law_script", v)]) ∧ ∀ base : Heap, K.In base → base.Ns mainGlobals mg → FnG l.prog w K mg base 8 fa fd ["_law_script"] (spOf K C_law) := by
  have e := hfa.symm.trans (PySem.W.mg_of X G a44)
  cases e
  have Z : Blt mg := ⟨PySem.W.mg_none_of X G b_isinstance, PySem.W.mg_none_of X G b_len, PySem.W.mg_none_of X G b_int, PySem.W.mg_none_of X G b_bool, PySem.W.mg_none_of X G b_tuple, PySem.W.mg_none_of X G b_list, PySem.W.mg_none_of X G b_str, PySem.W.mg_none_of X G b_all, PySem.W.mg_none_of X G b_any, PySem.W.mg_none_of X G b_abs, PySem.W.mg_none_of X G b_range, PySem.W.mg_none_of X G b_zip, PySem.W.mg_of X G b_gcd⟩
  have Bf : BendF K C := ⟨⟨pg, hd, po, sa⟩, ndegree, nmarks, nhandles⟩
  have Zz : KPair K mg "ZERO" Q0 := kpair_of X G aZERO lZERO
  have Zo : KPair K mg "ONE" Q1 := kpair_of X G aONE lONE
  have F0 := fun_mk (st := s_is_whole) l0 c0 k0
  have h0 := F0.binds (ps := ["thing"]) fun _ _ _ _ _ _ us hl => match us, hl with | [_], _ => rfl
  have g0 := PySem.W.mg_of X G a0
  have F1 := fun_mk (st := s_is_sequence) l1 c1 k1
  have h1 := F1.binds (ps := ["thing"]) fun _ _ _ _ _ _ us hl => match us, hl with | [_], _ => rfl
  have g1 := PySem.W.mg_of X G a1
  have F2 := fun_mk (st := s_is_value) l2 c2 k2
  have h2 := F2.binds (ps := ["thing"]) fun _ _ _ _ _ _ us hl => match us, hl with | [_], _ => rfl
  have g2 := PySem.W.mg_of X G a2
  have F3 := fun_mk (st := s_are_values) l3 c3 k3
  have h3 := F3.binds (ps := ["thing"]) fun _ _ _ _ _ _ us hl => match us, hl with | [_], _ => rfl
  have g3 := PySem.W.mg_of X G a3
  have F4 := fun_mk (st := s_pair) l4 c4 k4
  have h4 := F4.binds (ps := ["worth"]) fun _ _ _ _ _ _ us hl => match us, hl with | [_], _ => rfl
  have g4 := PySem.W.mg_of X G a4
  have F5 := fun_mk (st := s_pairs) l5 c5 k5
  have h5 := F5.binds (ps := ["worths"]) fun _ _ _ _ _ _ us hl => match us, hl with | [_], _ => rfl
  have g5 := PySem.W.mg_of X G a5
  have F6 := fun_mk (st := s_ratio) l6 c6 k6
  have h6 := F6.binds (ps := ["p", "q"]) fun _ _ _ _ _ _ us hl => match us, hl with | [_, _], _ => rfl
  have g6 := PySem.W.mg_of X G a6
  have F7 := fun_mk (st := s_added) l7 c7 k7
  have h7 := F7.binds (ps := ["a", "b"]) fun _ _ _ _ _ _ us hl => match us, hl with | [_, _], _ => rfl
  have g7 := PySem.W.mg_of X G a7
  have F8 := fun_mk (st := s_taken) l8 c8 k8
  have h8 := F8.binds (ps := ["a", "b"]) fun _ _ _ _ _ _ us hl => match us, hl with | [_, _], _ => rfl
  have g8 := PySem.W.mg_of X G a8
  have F9 := fun_mk (st := s_multiplied) l9 c9 k9
  have h9 := F9.binds (ps := ["a", "b"]) fun _ _ _ _ _ _ us hl => match us, hl with | [_, _], _ => rfl
  have g9 := PySem.W.mg_of X G a9
  have F10 := fun_mk (st := s_divided) l10 c10 k10
  have h10 := F10.binds (ps := ["a", "b"]) fun _ _ _ _ _ _ us hl => match us, hl with | [_, _], _ => rfl
  have g10 := PySem.W.mg_of X G a10
  have F11 := fun_mk (st := s_total) l11 c11 k11
  have h11 := F11.binds (ps := ["worths"]) fun _ _ _ _ _ _ us hl => match us, hl with | [_], _ => rfl
  have g11 := PySem.W.mg_of X G a11
  have F12 := fun_mk (st := s_is_less) l12 c12 k12
  have h12 := F12.binds (ps := ["a", "b"]) fun _ _ _ _ _ _ us hl => match us, hl with | [_, _], _ => rfl
  have g12 := PySem.W.mg_of X G a12
  have F13 := fun_mk (st := s_are_marks) l13 c13 k13
  have h13 := F13.binds (ps := ["degree", "marks"]) fun _ _ _ _ _ _ us hl => match us, hl with | [_, _], _ => rfl
  have g13 := PySem.W.mg_of X G a13
  have F14 := fun_mk (st := s_handle_count) l14 c14 k14
  have h14 := F14.binds (ps := ["degree", "marks"]) fun _ _ _ _ _ _ us hl => match us, hl with | [_, _], _ => rfl
  have g14 := PySem.W.mg_of X G a14
  have F15 := fun_mk (st := s_knots_of) l15 c15 k15
  have h15 := F15.binds (ps := ["degree", "marks"]) fun _ _ _ _ _ _ us hl => match us, hl with | [_, _], _ => rfl
  have g15 := PySem.W.mg_of X G a15
  have F16 := fun_mk (st := s_is_time) l16 c16 k16
  have h16 := F16.binds (ps := ["marks", "thing"]) fun _ _ _ _ _ _ us hl => match us, hl with | [_, _], _ => rfl
  have g16 := PySem.W.mg_of X G a16
  have F17 := fun_mk (st := s_time_within) l17 c17 k17
  have h17 := F17.binds (ps := ["marks", "time"]) fun _ _ _ _ _ _ us hl => match us, hl with | [_, _], _ => rfl
  have g17 := PySem.W.mg_of X G a17
  have F18 := fun_mk (st := s_weights) l18 c18 k18
  have h18 := F18.binds (ps := ["degree", "marks", "time"]) fun _ _ _ _ _ _ us hl => match us, hl with | [_, _, _], _ => rfl
  have g18 := PySem.W.mg_of X G a18
  have F19 := fun_mk (st := s_knot_ahead) l19 c19 k19
  have h19 := F19.binds (ps := ["degree", "knots", "when"]) fun _ _ _ _ _ _ us hl => match us, hl with | [_, _, _], _ => rfl
  have g19 := PySem.W.mg_of X G a19
  have F20 := fun_mk (st := s_weight) l20 c20 k20
  have h20 := F20.binds (ps := ["row", "knots", "i", "size", "when"]) fun _ _ _ _ _ _ us hl => match us, hl with | [_, _, _, _, _], _ => rfl
  have g20 := PySem.W.mg_of X G a20
  have F21 := fun_mk (st := s_share) l21 c21 k21
  have h21 := F21.binds (ps := ["weight", "above", "below"]) fun _ _ _ _ _ _ us hl => match us, hl with | [_, _, _], _ => rfl
  have g21 := PySem.W.mg_of X G a21
  have F22 := fun_mk (st := s_box) l22 c22 k22
  have h22 := F22.binds (ps := ["_law_script", "_law_k", "_law_own"]) fun _ _ _ _ _ _ us hl => match us, hl with | [_, _, _], _ => rfl
  have g22 := PySem.W.mg_of X G a22
  have F23 := fun_mk (st := s_take) l23 c23 k23
  have h23 := F23.binds (ps := ["_law_box_here", "_law_bound"]) fun _ _ _ _ _ _ us hl => match us, hl with | [_, _], _ => rfl
  have g23 := PySem.W.mg_of X G a23
  have F24 := fun_mk (st := s_pick) l24 c24 k24
  have h24 := F24.binds (ps := ["_law_box_here", "_law_items"]) fun _ _ _ _ _ _ us hl => match us, hl with | [_, _], _ => rfl
  have g24 := PySem.W.mg_of X G a24
  have F25 := fun_mk (st := s_fr) l25 c25 k25
  have h25 := F25.binds (ps := ["_law_top", "_law_bottom"]) fun _ _ _ _ _ _ us hl => match us, hl with | [_, _], _ => rfl
  have g25 := PySem.W.mg_of X G a25
  have F26 := fun_mk (st := s_law_add) l26 c26 k26
  have h26 := F26.binds (ps := ["_law_one", "_law_second"]) fun _ _ _ _ _ _ us hl => match us, hl with | [_, _], _ => rfl
  have g26 := PySem.W.mg_of X G a26
  have F27 := fun_mk (st := s_law_sub) l27 c27 k27
  have h27 := F27.binds (ps := ["_law_one", "_law_second"]) fun _ _ _ _ _ _ us hl => match us, hl with | [_, _], _ => rfl
  have g27 := PySem.W.mg_of X G a27
  have F28 := fun_mk (st := s_law_mul) l28 c28 k28
  have h28 := F28.binds (ps := ["_law_one", "_law_second"]) fun _ _ _ _ _ _ us hl => match us, hl with | [_, _], _ => rfl
  have g28 := PySem.W.mg_of X G a28
  have F29 := fun_mk (st := s_law_div) l29 c29 k29
  have h29 := F29.binds (ps := ["_law_one", "_law_second"]) fun _ _ _ _ _ _ us hl => match us, hl with | [_, _], _ => rfl
  have g29 := PySem.W.mg_of X G a29
  have F30 := fun_mk (st := s_law_sum) l30 c30 k30
  have h30 := F30.binds (ps := ["_law_some"]) fun _ _ _ _ _ _ us hl => match us, hl with | [_], _ => rfl
  have g30 := PySem.W.mg_of X G a30
  have F31 := fun_mk (st := s_law_small) l31 c31 k31
  have h31 := F31.binds (ps := ["_law_box_here", "_law_most"]) fun _ _ _ _ _ _ us hl => match us, hl with | [_, _], _ => rfl
  have g31 := PySem.W.mg_of X G a31
  have F32 := fun_mk (st := s_law_marks) l32 c32 k32
  have h32 := F32.binds (ps := ["_law_box_here", "_law_degree", "_law_most"]) fun _ _ _ _ _ _ us hl => match us, hl with | [_, _, _], _ => rfl
  have g32 := PySem.W.mg_of X G a32
  have F33 := fun_mk (st := s_law_drawn) l33 c33 k33
  have h33 := F33.binds (ps := ["_law_box_here", "_law_degree", "_law_most"]) fun _ _ _ _ _ _ us hl => match us, hl with | [_, _, _], _ => rfl
  have g33 := PySem.W.mg_of X G a33
  have F34 := fun_mk (st := s_law_made) l34 c34 k34
  have h34 := F34.binds (ps := ["_law_told"]) fun _ _ _ _ _ _ us hl => match us, hl with | [_], _ => rfl
  have g34 := PySem.W.mg_of X G a34
  have F35 := fun_mk (st := s_law_knots) l35 c35 k35
  have h35 := F35.binds (ps := ["_law_degree", "_law_marks_here"]) fun _ _ _ _ _ _ us hl => match us, hl with | [_, _], _ => rfl
  have g35 := PySem.W.mg_of X G a35
  have F36 := fun_mk (st := s_law_below) l36 c36 k36
  have h36 := F36.binds (ps := ["_law_one", "_law_second"]) fun _ _ _ _ _ _ us hl => match us, hl with | [_, _], _ => rfl
  have g36 := PySem.W.mg_of X G a36
  have F37 := fun_mk (st := s_law_times) l37 c37 k37
  have h37 := F37.binds (ps := ["_law_told", "_law_many"]) fun _ _ _ _ _ _ us hl => match us, hl with | [_, _], _ => rfl
  have g37 := PySem.W.mg_of X G a37
  have F38 := fun_mk (st := s_binit) l38 c38 k38
  have h38 := F38.binds (ps := ["self", "degree", "marks", "handles"]) fun _ _ _ _ _ _ us hl => match us, hl with | [_, _, _, _], _ => rfl
  have F39 := fun_mk (st := s_blen) l39 c39 k39
  have h39 := F39.binds (ps := ["self"]) fun _ _ _ _ _ _ us hl => match us, hl with | [_], _ => rfl
  have F40 := fun_mk (st := s_value) l40 c40 k40
  have h40 := F40.binds (ps := ["bend", "time"]) fun _ _ _ _ _ _ us hl => match us, hl with | [_, _], _ => rfl
  have g40 := PySem.W.mg_of X G a40
  have F41 := fun_mk (st := s_law_part) l41 c41 k41
  have h41 := F41.binds (ps := ["_law_top", "_law_bottom", "_law_times_it"]) fun _ _ _ _ _ _ us hl => match us, hl with | [_, _, _], _ => rfl
  have g41 := PySem.W.mg_of X G a41
  have F42 := fun_mk (st := s_law_weights) l42 c42 k42
  have h42 := F42.binds (ps := ["_law_degree", "_law_marks_here", "_law_time"]) fun _ _ _ _ _ _ us hl => match us, hl with | [_, _, _], _ => rfl
  have g42 := PySem.W.mg_of X G a42
  have F43 := fun_mk (st := s_law_worth) l43 c43 k43
  have h43 := F43.binds (ps := ["_law_told", "_law_time"]) fun _ _ _ _ _ _ us hl => match us, hl with | [_, _], _ => rfl
  have g43 := PySem.W.mg_of X G a43
  have F44 := fun_mk (st := s_law) l44 c44 k44
  refine ⟨PySem.W.fnOf "law" "law" (defArgs s_law) (defBody s_law) (defScope s_law) .none kV44 dc44 pm44 an44 cd44 ct44, fun s v => .of_eq rfl, fun base _ _ => ?_⟩
  let P : Program := l.prog
  have Gw := F_is_whole (P := P) (w := w) (base := base) Z  F0 g0 h0
  have Gs := F_is_sequence (P := P) (w := w) (base := base) Z  F1 g1 h1
  have Gv := F_is_value (P := P) (w := w) (base := base) Z Gw F2 g2 h2
  have Gvs := F_are_values (P := P) (w := w) (base := base) Z Gv Gs F3 g3 h3
  have Gp := F_pair (P := P) (w := w) (base := base) Z  F4 g4 h4
  have Gps := F_pairs (P := P) (w := w) (base := base) Z Gp F5 g5 h5
  have Gr := F_ratio (P := P) (w := w) (base := base) Z  F6 g6 h6
  have Ga0 := F_added (P := P) (w := w) (base := base)  Gr F7 g7 h7
  have Ga := F_addO Ga0
  have Gt0 := F_taken (P := P) (w := w) (base := base)  Gr F8 g8 h8
  have Gt := F_subO Gt0
  have Gm0 := F_multiplied (P := P) (w := w) (base := base)  Gr F9 g9 h9
  have Gm := F_mulO Gm0
  have Gd0 := F_divided (P := P) (w := w) (base := base)  Gr F10 g10 h10
  have Gd := F_divO Gd0
  have Gl0 := F_is_less (P := P) (w := w) (base := base)   F12 g12 h12
  have Gl := F_lessO Gl0
  have Gtot := F_total (P := P) (w := w) (base := base) Z Zz Ga F11 g11 h11
  have Gk := F_knots_of (P := P) (w := w) (base := base) Z Gps F15 g15 h15
  have Gsh := F_share (P := P) (w := w) (base := base)  Zz Gm Gd F21 g21 h21
  have Gwt := F_weight (P := P) (w := w) (base := base)  Ga Gt Gsh F20 g20 h20
  have Gah := F_knot_ahead (P := P) (w := w) (base := base) Z Gl F19 g19 h19
  have Git := F_is_time (P := P) (w := w) (base := base)  Gv Gp Gl F16 g16 h16
  have Gtw := F_time_within (P := P) (w := w) (base := base)  Git Gp F17 g17 h17
  have Gws := F_weights (P := P) (w := w) (base := base) Z Zz Zo Gtw Gk Gah Gwt F18 g18 h18
  have Gbl := M_blen (P := P) (w := w) (base := base) Z Bf F39 a39 i39 h39
  have Ghc := F_handle_count (P := P) (w := w) (base := base) Z  F14 g14 h14
  have Gam := F_are_marks (P := P) (w := w) (base := base) Z Gvs Gps Gl F13 g13 h13
  have CB := C_bend (P := P) (w := w) (base := base) Z Bf Gw Gam Gvs Ghc Gps (PySem.W.mg_of X G aC) F38 ⟨mk, a38, i38, kc⟩ h38
  have Gb := F_box (P := P) (w := w) (base := base) Z  F22 g22 h22
  have Gta := F_take (P := P) (w := w) (base := base) Z  F23 g23 h23
  have Gpi := F_pick (P := P) (w := w) (base := base) Z Gta F24 g24 h24
  have Gfr := F_fr (P := P) (w := w) (base := base) Z  F25 g25 h25
  have La := F_law_add (P := P) (w := w) (base := base)  Gfr F26 g26 h26
  have Ls := F_law_sub (P := P) (w := w) (base := base)  Gfr F27 g27 h27
  have Lm := F_law_mul (P := P) (w := w) (base := base)  Gfr F28 g28 h28
  have Ld := F_law_div (P := P) (w := w) (base := base)  Gfr F29 g29 h29
  have Lsum := F_law_sum (P := P) (w := w) (base := base)  La F30 g30 h30
  have Lsm := F_law_small (P := P) (w := w) (base := base)  Gta Gpi Gfr F31 g31 h31
  have Lma := F_law_marks (P := P) (w := w) (base := base) Z Gta Gpi La F32 g32 h32
  have Ldr := F_law_drawn (P := P) (w := w) (base := base) Z Gta Lma Lsm F33 g33 h33
  have Lmd := F_law_made (P := P) (w := w) (base := base)  CB F34 g34 h34
  have Lk := F_law_knots (P := P) (w := w) (base := base) Z  F35 g35 h35
  have Lb := F_law_below (P := P) (w := w) (base := base)   F36 g36 h36
  have Lt := F_law_times (P := P) (w := w) (base := base) Z Lb Ls La Lm Gfr F37 g37 h37
  have Gval := F_value (P := P) (w := w) (base := base) Z Bf Gtot Gws Gm F40 g40 h40
  have LkX := F_law_knotsX (P := P) (w := w) (base := base) Z  F35 g35 h35
  have Lpa := F_law_part (P := P) (w := w) (base := base)  Lm Ld F41 g41 h41
  have Lwe := F_law_weights (P := P) (w := w) (base := base) Z LkX Lb Lpa Ls La F42 g42 h42
  have LsX := F_law_sumX (P := P) (w := w) (base := base)  La F30 g30 h30
  have Lwo := F_law_worth (P := P) (w := w) (base := base) Z Lwe Lm LsX F43 g43 h43
  have LmX := F_law_madeX (P := P) (w := w) (base := base)  CB F34 g34 h34
  exact F_law Z (PySem.W.mg_none_of X G b_max) (PySem.W.mg_none_of X G b_min) (PySem.W.mg_none_of X G b_repr) Gb Ldr LmX Lt Lwo Gval F44
end HB
open PySem PySem.W PyProof.Rows
set_option maxHeartbeats 0
theorem PySem.Challenge.cw_handlebends_k07_values_of_curves_holds : PySem.Challenge.rw_handlebends_k07_values_of_curves.Holds := by
  w_on; o_law; k_head; (case hw => w_witness2)
  k_fill
  refine AL.walk_ofG (l := PySem.Challenge.rw_handlebends_k07_values_of_curves) (n := 63) (k := 8) (x := "_law_script") (sp := fun w => AL.spOf _ HB.C_law) rfl (by decide) rfl ⟨rfl, by decide, by decide⟩ (fun w h Y => PySem.W.kIn_of Y) ?F (fun _ _ a ns _ _ hS => HB.sp_law hS)
  case F =>
    intro w mg fa h KX G hmg
    refine' HB.all_mk KX G hmg ?aC ?a0 ?l0 ?c0 ?k0 ?a1 ?l1 ?c1 ?k1 ?a2 ?l2 ?c2 ?k2 ?a3 ?l3 ?c3 ?k3 ?a4 ?l4 ?c4 ?k4 ?a5 ?l5 ?c5 ?k5 ?a6 ?l6 ?c6 ?k6 ?a7 ?l7 ?c7 ?k7 ?a8 ?l8 ?c8 ?k8 ?a9 ?l9 ?c9 ?k9 ?a10 ?l10 ?c10 ?k10 ?a11 ?l11 ?c11 ?k11 ?a12 ?l12 ?c12 ?k12 ?a13 ?l13 ?c13 ?k13 ?a14 ?l14 ?c14 ?k14 ?a15 ?l15 ?c15 ?k15 ?a16 ?l16 ?c16 ?k16 ?a17 ?l17 ?c17 ?k17 ?a18 ?l18 ?c18 ?k18 ?a19 ?l19 ?c19 ?k19 ?a20 ?l20 ?c20 ?k20 ?a21 ?l21 ?c21 ?k21 ?a22 ?l22 ?c22 ?k22 ?a23 ?l23 ?c23 ?k23 ?a24 ?l24 ?c24 ?k24 ?a25 ?l25 ?c25 ?k25 ?a26 ?l26 ?c26 ?k26 ?a27 ?l27 ?c27 ?k27 ?a28 ?l28 ?c28 ?k28 ?a29 ?l29 ?c29 ?k29 ?a30 ?l30 ?c30 ?k30 ?a31 ?l31 ?c31 ?k31 ?a32 ?l32 ?c32 ?k32 ?a33 ?l33 ?c33 ?k33 ?a34 ?l34 ?c34 ?k34 ?a35 ?l35 ?c35 ?k35 ?a36 ?l36 ?c36 ?k36 ?a37 ?l37 ?c37 ?k37 ?a38 ?i38 ?l38 ?c38 ?k38 ?a39 ?i39 ?l39 ?c39 ?k39 ?a40 ?l40 ?c40 ?k40 ?a41 ?l41 ?c41 ?k41 ?a42 ?l42 ?c42 ?k42 ?a43 ?l43 ?c43 ?k43 ?a44 ?l44 ?c44 ?k44 ?pg ?hd ?po ?sa ?mk ?kc ?ndegree ?nmarks ?nhandles ?aZERO ?lZERO ?aONE ?lONE ?b_isinstance ?b_len ?b_int ?b_bool ?b_tuple ?b_list ?b_str ?b_all ?b_any ?b_abs ?b_range ?b_zip ?b_max ?b_min ?b_repr ?b_gcd
    (case aC => k_is)
    (case a0 => k_is)
    (case l0 => k_is)
    (case c0 => k_is)
    (case k0 => k_is)
    (case a1 => k_is)
    (case l1 => k_is)
    (case c1 => k_is)
    (case k1 => k_is)
    (case a2 => k_is)
    (case l2 => k_is)
    (case c2 => k_is)
    (case k2 => k_is)
    (case a3 => k_is)
    (case l3 => k_is)
    (case c3 => k_is)
    (case k3 => k_is)
    (case a4 => k_is)
    (case l4 => k_is)
    (case c4 => k_is)
    (case k4 => k_is)
    (case a5 => k_is)
    (case l5 => k_is)
    (case c5 => k_is)
    (case k5 => k_is)
    (case a6 => k_is)
    (case l6 => k_is)
    (case c6 => k_is)
    (case k6 => k_is)
    (case a7 => k_is)
    (case l7 => k_is)
    (case c7 => k_is)
    (case k7 => k_is)
    (case a8 => k_is)
    (case l8 => k_is)
    (case c8 => k_is)
    (case k8 => k_is)
    (case a9 => k_is)
    (case l9 => k_is)
    (case c9 => k_is)
    (case k9 => k_is)
    (case a10 => k_is)
    (case l10 => k_is)
    (case c10 => k_is)
    (case k10 => k_is)
    (case a11 => k_is)
    (case l11 => k_is)
    (case c11 => k_is)
    (case k11 => k_is)
    (case a12 => k_is)
    (case l12 => k_is)
    (case c12 => k_is)
    (case k12 => k_is)
    (case a13 => k_is)
    (case l13 => k_is)
    (case c13 => k_is)
    (case k13 => k_is)
    (case a14 => k_is)
    (case l14 => k_is)
    (case c14 => k_is)
    (case k14 => k_is)
    (case a15 => k_is)
    (case l15 => k_is)
    (case c15 => k_is)
    (case k15 => k_is)
    (case a16 => k_is)
    (case l16 => k_is)
    (case c16 => k_is)
    (case k16 => k_is)
    (case a17 => k_is)
    (case l17 => k_is)
    (case c17 => k_is)
    (case k17 => k_is)
    (case a18 => k_is)
    (case l18 => k_is)
    (case c18 => k_is)
    (case k18 => k_is)
    (case a19 => k_is)
    (case l19 => k_is)
    (case c19 => k_is)
    (case k19 => k_is)
    (case a20 => k_is)
    (case l20 => k_is)
    (case c20 => k_is)
    (case k20 => k_is)
    (case a21 => k_is)
    (case l21 => k_is)
    (case c21 => k_is)
    (case k21 => k_is)
    (case a22 => k_is)
    (case l22 => k_is)
    (case c22 => k_is)
    (case k22 => k_is)
    (case a23 => k_is)
    (case l23 => k_is)
    (case c23 => k_is)
    (case k23 => k_is)
    (case a24 => k_is)
    (case l24 => k_is)
    (case c24 => k_is)
    (case k24 => k_is)
    (case a25 => k_is)
    (case l25 => k_is)
    (case c25 => k_is)
    (case k25 => k_is)
    (case a26 => k_is)
    (case l26 => k_is)
    (case c26 => k_is)
    (case k26 => k_is)
    (case a27 => k_is)
    (case l27 => k_is)
    (case c27 => k_is)
    (case k27 => k_is)
    (case a28 => k_is)
    (case l28 => k_is)
    (case c28 => k_is)
    (case k28 => k_is)
    (case a29 => k_is)
    (case l29 => k_is)
    (case c29 => k_is)
    (case k29 => k_is)
    (case a30 => k_is)
    (case l30 => k_is)
    (case c30 => k_is)
    (case k30 => k_is)
    (case a31 => k_is)
    (case l31 => k_is)
    (case c31 => k_is)
    (case k31 => k_is)
    (case a32 => k_is)
    (case l32 => k_is)
    (case c32 => k_is)
    (case k32 => k_is)
    (case a33 => k_is)
    (case l33 => k_is)
    (case c33 => k_is)
    (case k33 => k_is)
    (case a34 => k_is)
    (case l34 => k_is)
    (case c34 => k_is)
    (case k34 => k_is)
    (case a35 => k_is)
    (case l35 => k_is)
    (case c35 => k_is)
    (case k35 => k_is)
    (case a36 => k_is)
    (case l36 => k_is)
    (case c36 => k_is)
    (case k36 => k_is)
    (case a37 => k_is)
    (case l37 => k_is)
    (case c37 => k_is)
    (case k37 => k_is)
    (case a38 => k_is)
    (case i38 => k_is)
    (case l38 => k_is)
    (case c38 => k_is)
    (case k38 => k_is)
    (case a39 => k_is)
    (case i39 => k_is)
    (case l39 => k_is)
    (case c39 => k_is)
    (case k39 => k_is)
    (case a40 => k_is)
    (case l40 => k_is)
    (case c40 => k_is)
    (case k40 => k_is)
    (case a41 => k_is)
    (case l41 => k_is)
    (case c41 => k_is)
    (case k41 => k_is)
    (case a42 => k_is)
    (case l42 => k_is)
    (case c42 => k_is)
    (case k42 => k_is)
    (case a43 => k_is)
    (case l43 => k_is)
    (case c43 => k_is)
    (case k43 => k_is)
    (case a44 => k_is)
    (case l44 => k_is)
    (case c44 => k_is)
    (case k44 => k_is)
    (case pg => k_is)
    (case hd => k_is)
    (case po => k_is)
    (case sa => k_is)
    (case mk => k_is)
    (case kc => k_is)
    (case ndegree => k_is)
    (case nmarks => k_is)
    (case nhandles => k_is)
    (case aZERO => k_is)
    (case lZERO => k_is)
    (case aONE => k_is)
    (case lONE => k_is)
    (case b_isinstance => k_is)
    (case b_len => k_is)
    (case b_int => k_is)
    (case b_bool => k_is)
    (case b_tuple => k_is)
    (case b_list => k_is)
    (case b_str => k_is)
    (case b_all => k_is)
    (case b_any => k_is)
    (case b_abs => k_is)
    (case b_range => k_is)
    (case b_zip => k_is)
    (case b_max => k_is)
    (case b_min => k_is)
    (case b_repr => k_is)
    (case b_gcd => k_is)
