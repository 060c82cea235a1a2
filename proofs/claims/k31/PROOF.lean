import PyProof.Rows.All
import Wide.All
import OpenK.AllK
import Wide.FinOn
import HandS.ForMost
import HandS.Wide
import HandS.Walk
import HandS.Gcd
import HandS.IsInst
import HandS.TupAny
import HandS.Zip
import HandS.TupMul
import KE.DataFind
import HandS.Style
import HandS.DictComp
import HandS.FStr
import HandS.Text
import KE.KCallOwn
import KE.DataEq
import KE.GoesEnum
import KE.KMathGC
import KE.KMathG
import HandS.Deep
import HandS.Flow
import HandS.Zip0
import KE.KRevSl
import KE.KDictZip
import HandS.SortKw
import KE.DatumOrd
import HandS.CallLocal
import KE.GoesZip
import KE.GoesMore
import PySem.Challenge.RW_handlebends_k31_any_values_as_places
set_option Elab.async false
set_option linter.all false
set_option maxRecDepth 100000
set_option exponentiation.threshold 20000
/-! AL: an abstract layer over the hand layer: values told by what they are, memory by what may change. -/
namespace AL
open PySem PySem.Spec L2
open PyProof.Rows hiding St
/-- M: the addresses that may change -/
structure Ext (M : List Addr) (H : Hp) (M' : List Addr) (H' : Hp) : Prop where
  old : ∀ a o, a ∉ M → H a = some o → H' a = some o
  new : ∀ a, a ∈ M' → a ∈ M ∨ H a = none
  dom : ∀ a, H' a = none → H a = none
theorem upd_none {H : Hp} {q a : Addr} {o : HO} (h : upd H q o a = none) : H a = none := by
  by_cases e : a = q
  · subst e; rw [upd_same] at h; cases h
  · rw [upd_ne e] at h; exact h
theorem Ext.refl (M : List Addr) (H : Hp) : Ext M H M H := ⟨fun _ _ _ h => h, fun _ h => .inl h, fun _ h => h⟩
theorem Ext.trans {M M1 M2 : List Addr} {H H1 H2 : Hp} (a : Ext M H M1 H1) (b : Ext M1 H1 M2 H2) : Ext M H M2 H2 := by
  refine ⟨fun x o hm e => ?_, fun x hx => ?_, fun x h => a.dom x (b.dom x h)⟩
  · refine b.old x o (fun q => ?_) (a.old x o hm e)
    rcases a.new x q with q | q
    · exact hm q
    · rw [e] at q; cases q
  · rcases b.new x hx with q | q
    · exact a.new x q
    · by_cases hm : x ∈ M
      · exact .inl hm
      · refine .inr ?_
        cases e : H x with
        | none => rfl
        | some o => rw [a.old x o hm e] at q; cases q
/-- a new object -/
theorem Ext.alloc {M : List Addr} {H : Hp} {q : Addr} {o : HO} (h : H q = none) : Ext M H M (upd H q o) :=
  ⟨fun a u _ e => by rw [upd_ne (ne_of_none e h)]; exact e, fun _ h => .inl h, fun _ z => upd_none z⟩
theorem Ext.alloc1 {M : List Addr} {H : Hp} {q : Addr} {o : HO} (h : H q = none) : Ext M H (q :: M) (upd H q o) :=
  ⟨fun a u _ e => by rw [upd_ne (ne_of_none e h)]; exact e, fun a z => by
    rcases List.mem_cons.mp z with rfl | z
    · exact .inr h
    · exact .inl z, fun _ z => upd_none z⟩
/-- a store -/
theorem Ext.store {M : List Addr} {H : Hp} {q : Addr} {o : HO} (h : q ∈ M) : Ext M H M (upd H q o) :=
  ⟨fun a u n e => by rw [upd_ne (fun z => n (by rw [z]; exact h))]; exact e, fun _ h => .inl h, fun _ z => upd_none z⟩
/-- an abstract value -/
structure AV where
  p : PySem.W.Frag → List Addr → Hp → V → Prop
  st : ∀ {K : PySem.W.Frag} {M M' : List Addr} {H H' : Hp} {v : V}, p K M H v → Ext M H M' H' → p K M' H' v
abbrev AllV (K : PySem.W.Frag) (M : List Addr) (H : Hp) : List AV → List V → Prop := Paired fun (A : AV) v => A.p K M H v
theorem AllV.st {K : PySem.W.Frag} {M M' : List Addr} {H H' : Hp} : ∀ {As : List AV} {vs : List V}, AllV K M H As vs → Ext M H M' H' → AllV K M' H' As vs
  | _, _, .nil, _ => .nil
  | A :: _, _, .cons r t, e => .cons (A.st r e) (AllV.st t e)
theorem AllV.length {K : PySem.W.Frag} {M : List Addr} {H : Hp} {As : List AV} {vs : List V} (h : AllV K M H As vs) : As.length = vs.length := Paired.length h
theorem AllV.append {K : PySem.W.Frag} {M : List Addr} {H : Hp} : ∀ {As Bs : List AV} {vs us : List V}, AllV K M H As vs → AllV K M H Bs us → AllV K M H (As ++ Bs) (vs ++ us)
  | _, _, _, _, .nil, s => s
  | _, _, _, _, .cons r t, s => .cons r (AllV.append t s)
theorem AllV.get {K : PySem.W.Frag} {M : List Addr} {H : Hp} : ∀ {As : List AV} {vs : List V} {i : Nat} {A : AV}, AllV K M H As vs → As[i]? = some A → ∃ v, vs[i]? = some v ∧ A.p K M H v
  | _, _, _, _, .nil, e => by simp at e
  | _, _, 0, _, .cons r _, e => by simp at e; subst e; exact ⟨_, rfl, r⟩
  | _, _, i + 1, A, .cons _ t, e => by
    obtain ⟨u, h1, h2⟩ := AllV.get (i := i) (A := A) t (by simpa using e)
    exact ⟨u, by simpa using h1, h2⟩
theorem AllV.getV {K : PySem.W.Frag} {M : List Addr} {H : Hp} : ∀ {As : List AV} {vs : List V} {i : Nat} {v : V}, AllV K M H As vs → vs[i]? = some v → ∃ A, As[i]? = some A ∧ A.p K M H v
  | _, _, _, _, .nil, e => by simp at e
  | _, _, 0, _, .cons r _, e => by simp at e; subst e; exact ⟨_, rfl, r⟩
  | _, _, i + 1, A, .cons _ t, e => by
    obtain ⟨u, h1, h2⟩ := AllV.getV (i := i) (v := A) t (by simpa using e)
    exact ⟨u, by simpa using h1, h2⟩
theorem AllV.drop {K : PySem.W.Frag} {M : List Addr} {H : Hp} : ∀ {As : List AV} {vs : List V} (n : Nat), AllV K M H As vs → AllV K M H (As.drop n) (vs.drop n)
  | _, _, 0, r => r
  | _, _, _ + 1, .nil => .nil
  | _, _, n + 1, .cons _ t => AllV.drop n t
theorem AllV.take {K : PySem.W.Frag} {M : List Addr} {H : Hp} : ∀ {As : List AV} {vs : List V} (n : Nat), AllV K M H As vs → AllV K M H (As.take n) (vs.take n)
  | _, _, 0, _ => .nil
  | _, _, _ + 1, .nil => .nil
  | _, _, n + 1, .cons r t => .cons r (AllV.take n t)
theorem AllV.reverse {K : PySem.W.Frag} {M : List Addr} {H : Hp} : ∀ {As : List AV} {vs : List V}, AllV K M H As vs → AllV K M H As.reverse vs.reverse
  | _, _, .nil => .nil
  | _, _, .cons r t => by
    rw [List.reverse_cons, List.reverse_cons]
    exact (AllV.reverse t).append (.cons r .nil)
theorem AllV.set {K : PySem.W.Frag} {M : List Addr} {H : Hp} {A : AV} {v : V} (r : A.p K M H v) : ∀ {As : List AV} {vs : List V} (i : Nat), AllV K M H As vs → AllV K M H (As.set i A) (vs.set i v)
  | _, _, _, .nil => .nil
  | _, _, 0, .cons _ t => .cons r t
  | _, _, i + 1, .cons q t => .cons q (AllV.set r i t)
/-! ### what values are -/
def KSeq (K : PySem.W.Frag) (cls : String) (a : Addr) (xs : List V) : Prop :=
  match cls with
  | "list" => ∃ (o : Obj) (its : Array Value) (n : Nat), K.lookup a = some o ∧ o.cls = .type "list" ∧ o.dict = none ∧ o.data = .seq its n ∧ its.size ≤ sizeLine ∧ Vals xs its.toList
  | _ => ∃ (o : Obj) (its : Array Value) (n : Nat), K.lookup a = some o ∧ o.cls = .type "tuple" ∧ o.data = .seq its n ∧ its.size ≤ sizeLine ∧ Vals xs its.toList
def ListAt (M : List Addr) (H : Hp) (a : Addr) (xs : List V) : Prop := H a = some (.lst xs) ∧ a ∉ M
def TupAt (K : PySem.W.Frag) (M : List Addr) (H : Hp) (a : Addr) (xs : List V) : Prop := (Rd H a (.tup xs) ∧ a ∉ M) ∨ KSeq K "tuple" a xs
theorem Ext.rd {M M' : List Addr} {H H' : Hp} (e : Ext M H M' H') {a : Addr} {u : HO} (h : Rd H a u) (n : a ∉ M) : Rd H' a u ∧ a ∉ M' := by
  have n' : a ∉ M' := fun q => by
    rcases e.new a q with q | q
    · exact n q
    · rcases h with h | ⟨o, h⟩ <;> (rw [h] at q; cases q)
  rcases h with h | ⟨o, h⟩
  · exact ⟨.inl (e.old _ _ n h), n'⟩
  · exact ⟨.inr ⟨o, e.old _ _ n h⟩, n'⟩
theorem ListAt.st {M M' : List Addr} {H H' : Hp} {a : Addr} {xs : List V} (h : ListAt M H a xs) (e : Ext M H M' H') : ListAt M' H' a xs := ⟨e.old _ _ h.2 h.1, (e.rd (.inl h.1) h.2).2⟩
theorem TupAt.st {K : PySem.W.Frag} {M M' : List Addr} {H H' : Hp} {a : Addr} {xs : List V} (h : TupAt K M H a xs) (e : Ext M H M' H') : TupAt K M' H' a xs := by
  rcases h with ⟨h, n⟩ | h
  · exact .inl (e.rd h n)
  · exact .inr h
theorem ListAt.sq {K : PySem.W.Frag} {M : List Addr} {H : Hp} {a : Addr} {xs : List V} (h : ListAt M H a xs) : SqL K H a xs := .inl (.inl h.1)
theorem TupAt.sq {K : PySem.W.Frag} {M : List Addr} {H : Hp} {a : Addr} {xs : List V} (h : TupAt K M H a xs) : SqT K H a xs := by
  rcases h with ⟨h, _⟩ | h
  · exact .inl h
  · exact .inr h
/-- just this value -/
def val (x : V) : AV := ⟨fun _ _ _ v => v = x, fun h _ => h⟩
abbrev int (n : Int) : AV := val (.int n)
abbrev bool (b : Bool) : AV := val (.bl b)
abbrev str (x : Str) : AV := val (.str x)
abbrev non : AV := val .non
/-- a tuple, a list that nobody changes -/
def tup (As : List AV) : AV := ⟨fun K M H v => ∃ a vs, v = .ref a ∧ TupAt K M H a vs ∧ AllV K M H As vs, fun ⟨a, vs, e, t, r⟩ x => ⟨a, vs, e, t.st x, r.st x⟩⟩
def lst (As : List AV) : AV := ⟨fun K M H v => ∃ a vs, v = .ref a ∧ ListAt M H a vs ∧ AllV K M H As vs, fun ⟨a, vs, e, t, r⟩ x => ⟨a, vs, e, t.st x, r.st x⟩⟩
/-- the script -/
def ScrAt (K : PySem.W.Frag) (M : List Addr) (H : Hp) (a : Addr) (xs : List V) : Prop := (Rd H a (.lst xs) ∧ a ∉ M) ∨ KSeq K "list" a xs
theorem ScrAt.st {K : PySem.W.Frag} {M M' : List Addr} {H H' : Hp} {a : Addr} {xs : List V} (h : ScrAt K M H a xs) (e : Ext M H M' H') : ScrAt K M' H' a xs := by
  rcases h with ⟨h, n⟩ | h
  · exact .inl (e.rd h n)
  · exact .inr h
theorem ScrAt.sq {K : PySem.W.Frag} {M : List Addr} {H : Hp} {a : Addr} {xs : List V} (h : ScrAt K M H a xs) : SqL K H a xs := by
  rcases h with ⟨h, _⟩ | h
  · exact .inl h
  · exact .inr h
def scr (As : List AV) : AV := ⟨fun K M H v => ∃ a vs, v = .ref a ∧ ScrAt K M H a vs ∧ AllV K M H As vs, fun ⟨a, vs, e, t, r⟩ x => ⟨a, vs, e, t.st x, r.st x⟩⟩
/-- an instance that nobody changes -/
abbrev FieldsV (K : PySem.W.Frag) (M : List Addr) (H : Hp) : List (Str × AV) → List (Str × V) → Prop := Paired fun (p : Str × AV) (q : Str × V) => p.1 = q.1 ∧ p.2.p K M H q.2
theorem FieldsV.st {K : PySem.W.Frag} {M M' : List Addr} {H H' : Hp} : ∀ {fs : List (Str × AV)} {vs : List (Str × V)}, FieldsV K M H fs vs → Ext M H M' H' → FieldsV K M' H' fs vs
  | _, _, .nil, _ => .nil
  | A :: _, _, .cons r t, e => .cons ⟨r.1, A.2.st r.2 e⟩ (FieldsV.st t e)
theorem FieldsV.get {K : PySem.W.Frag} {M : List Addr} {H : Hp} : ∀ {fs : List (Str × AV)} {vs : List (Str × V)} {f : Str} {A : AV}, FieldsV K M H fs vs → fs.lookup f = some A → ∃ v, vs.lookup f = some v ∧ A.p K M H v
  | _, _, _, _, .nil, e => by simp at e
  | (g, B) :: fs, (g', v) :: vs, f, A, .cons r t, e => by
    obtain ⟨r1, r2⟩ := r
    simp only at r1 r2
    subst r1
    rw [List.lookup_cons] at e ⊢
    cases q : f == g with
    | true => rw [q] at e; cases e; exact ⟨v, rfl, r2⟩
    | false => rw [q] at e; exact FieldsV.get t e
def ins (C : Addr) (fs : List (Str × AV)) : AV := ⟨fun K M H v => ∃ a dx vs, v = .ref a ∧ H a = some (.ins C dx vs) ∧ a ∉ M ∧ FieldsV K M H fs vs, fun ⟨a, dx, vs, e, t, n, r⟩ x => by
  obtain ⟨t', n'⟩ := x.rd (.inl t) n
  have t2 := x.old _ _ n t
  exact ⟨a, dx, vs, e, t2, n', r.st x⟩⟩
/-! ### the state -/
/-- a thing that may change: a list, an instance -/
inductive Cell where
  | l (As : List AV)
  | i (C : Addr) (fs : List (Str × AV))
def CellO (K : PySem.W.Frag) (M : List Addr) (H : Hp) : Cell → HO → Prop
  | .l As, .lst vs => AllV K M H As vs
  | .i C fs, .ins C' _ vs => C' = C ∧ FieldsV K M H fs vs
  | _, _ => False
theorem CellO.st {K : PySem.W.Frag} {M M' : List Addr} {H H' : Hp} : ∀ {c : Cell} {o : HO}, CellO K M H c o → Ext M H M' H' → CellO K M' H' c o
  | .l _, .lst _, h, e => AllV.st h e
  | .i _ _, .ins _ _ _, h, e => ⟨h.1, FieldsV.st h.2 e⟩
  | .l _, .tup _, h, _ => h.elim
  | .l _, .dK _, h, _ => h.elim
  | .l _, .dT _, h, _ => h.elim
  | .l _, .set _ _, h, _ => h.elim
  | .l _, .ins _ _ _, h, _ => h.elim
  | .l _, .own _, h, _ => h.elim
  | .l _, .xd _, h, _ => h.elim
  | .l _, .met _ _, h, _ => h.elim
  | .l _, .rng _ _, h, _ => h.elim
  | .l _, .frz _ _, h, _ => h.elim
  | .l _, .tbl _, h, _ => h.elim
  | .l _, .ext _, h, _ => h.elim
  | .i _ _, .lst _, h, _ => h.elim
  | .i _ _, .tup _, h, _ => h.elim
  | .i _ _, .dK _, h, _ => h.elim
  | .i _ _, .dT _, h, _ => h.elim
  | .i _ _, .set _ _, h, _ => h.elim
  | .i _ _, .own _, h, _ => h.elim
  | .i _ _, .xd _, h, _ => h.elim
  | .i _ _, .met _ _, h, _ => h.elim
  | .i _ _, .rng _ _, h, _ => h.elim
  | .i _ _, .frz _ _, h, _ => h.elim
  | .i _ _, .tbl _, h, _ => h.elim
  | .i _ _, .ext _, h, _ => h.elim
theorem CellO.lst {K : PySem.W.Frag} {M : List Addr} {H : Hp} {As : List AV} {o : HO} (h : CellO K M H (.l As) o) : ∃ vs, o = .lst vs ∧ AllV K M H As vs := by
  cases o with
  | lst vs => exact ⟨vs, rfl, h⟩
  | _ => exact h.elim
theorem CellO.ins {K : PySem.W.Frag} {M : List Addr} {H : Hp} {C : Addr} {fs : List (Str × AV)} {o : HO} (h : CellO K M H (.i C fs) o) : ∃ dx vs, o = .ins C dx vs ∧ FieldsV K M H fs vs := by
  cases o with
  | ins C' dx vs =>
    obtain ⟨e, r⟩ := h
    subst e
    exact ⟨dx, vs, rfl, r⟩
  | _ => exact h.elim
abbrev Mem := List (Addr × Cell)
abbrev Mem.M (m : Mem) : List Addr := m.map (·.1)
abbrev Rho := List (Option AV)
def SlotV (K : PySem.W.Frag) (M : List Addr) (H : Hp) : Option AV → Option V → Prop
  | none, _ => True
  | some A, some v => A.p K M H v
  | some _, none => False
abbrev EnvV (K : PySem.W.Frag) (M : List Addr) (H : Hp) : Rho → St → Prop := Paired (SlotV K M H)
theorem SlotV.st {K : PySem.W.Frag} {M M' : List Addr} {H H' : Hp} : ∀ {a : Option AV} {v : Option V}, SlotV K M H a v → Ext M H M' H' → SlotV K M' H' a v
  | none, _, _, _ => trivial
  | some A, some _, h, e => A.st h e
  | some _, none, h, _ => h.elim
theorem EnvV.st {K : PySem.W.Frag} {M M' : List Addr} {H H' : Hp} : ∀ {ρ : Rho} {σ : St}, EnvV K M H ρ σ → Ext M H M' H' → EnvV K M' H' ρ σ
  | _, _, .nil, _ => .nil
  | _, _, .cons r t, e => .cons (r.st e) (EnvV.st t e)
theorem EnvV.get {K : PySem.W.Frag} {M : List Addr} {H : Hp} : ∀ {ρ : Rho} {σ : St} {i : Nat} {A : AV}, EnvV K M H ρ σ → ρ[i]? = some (some A) → ∃ v, σ[i]? = some (some v) ∧ A.p K M H v
  | _, _, _, _, .nil, e => by simp at e
  | _, some v :: _, 0, _, .cons r _, e => by simp at e; subst e; exact ⟨v, rfl, r⟩
  | _, none :: _, 0, _, .cons r _, e => by simp at e; subst e; exact r.elim
  | _, _, i + 1, A, .cons _ t, e => by
    obtain ⟨u, h1, h2⟩ := EnvV.get (i := i) (A := A) t (by simpa using e)
    exact ⟨u, by simpa using h1, h2⟩
theorem EnvV.set {K : PySem.W.Frag} {M : List Addr} {H : Hp} {A : AV} {v : V} (r : A.p K M H v) : ∀ {ρ : Rho} {σ : St} (i : Nat), EnvV K M H ρ σ → EnvV K M H (ρ.set i (some A)) (σ.set i (some v))
  | _, _, _, .nil => .nil
  | _, _, 0, .cons _ t => .cons r t
  | _, _, i + 1, .cons q t => .cons q (EnvV.set r i t)
theorem EnvV.forget {K : PySem.W.Frag} {M : List Addr} {H : Hp} {x : Option V} : ∀ {ρ : Rho} {σ : St} (i : Nat), EnvV K M H ρ σ → EnvV K M H (ρ.set i none) (σ.set i x)
  | _, _, _, .nil => .nil
  | _, _, 0, .cons _ t => .cons trivial t
  | _, _, i + 1, .cons q t => .cons q (EnvV.forget i t)
def wipeR (ρ : Rho) : List Nat → Rho
  | [] => ρ
  | v :: vs => (wipeR ρ vs).set v none
theorem EnvV.wipe {K : PySem.W.Frag} {M : List Addr} {H : Hp} {ρ : Rho} {σ : St} (h : EnvV K M H ρ σ) : ∀ vs : List Nat, EnvV K M H (wipeR ρ vs) (wipe σ vs)
  | [] => h
  | v :: vs => (EnvV.wipe h vs).forget v
/-- what others may change, but nobody does here -/
abbrev Frm := List (Addr × HO)
abbrev Ms (fr : Frm) (m : Mem) : List Addr := fr.map (·.1) ++ m.map (·.1)
structure MemV (K : PySem.W.Frag) (fr : Frm) (m : Mem) (H : Hp) : Prop where
  frm : ∀ b o, (b, o) ∈ fr → H b = some o
  at_ : ∀ b c, (b, c) ∈ m → ∃ o, H b = some o ∧ CellO K (Ms fr m) H c o
  nd : (Ms fr m).Nodup
structure Holds (K : PySem.W.Frag) (fr : Frm) (ρ : Rho) (m : Mem) (σ : St) (H : Hp) : Prop where
  env : EnvV K (Ms fr m) H ρ σ
  mem : MemV K fr m H
theorem MemV.has {K : PySem.W.Frag} {fr : Frm} {m : Mem} {H : Hp} (h : MemV K fr m H) {b : Addr} (hb : b ∈ Ms fr m) : ∃ o, H b = some o := by
  rcases List.mem_append.mp hb with z | z
  · obtain ⟨⟨c, o⟩, hc, e⟩ := List.mem_map.mp z
    have e' : c = b := e
    subst e'
    exact ⟨o, h.frm _ _ hc⟩
  · obtain ⟨⟨c, As⟩, hc, e⟩ := List.mem_map.mp z
    have e' : c = b := e
    subst e'
    obtain ⟨vs, e, _⟩ := h.at_ _ _ hc
    exact ⟨_, e⟩
theorem MemV.notin {K : PySem.W.Frag} {fr : Frm} {m : Mem} {H : Hp} {q : Addr} (h : MemV K fr m H) (hq : H q = none) : q ∉ Ms fr m := fun z => by
  obtain ⟨o, e⟩ := h.has z
  rw [hq] at e; cases e
theorem MemV.alloc {K : PySem.W.Frag} {fr : Frm} {m : Mem} {H : Hp} {q : Addr} {o : HO} (h : MemV K fr m H) (hq : H q = none) : MemV K fr m (upd H q o) := by
  refine ⟨fun b u z => ?_, fun b As z => ?_, h.nd⟩
  · have e := h.frm b u z
    rw [upd_ne (ne_of_none e hq)]; exact e
  · obtain ⟨vs, e, r⟩ := h.at_ b As z
    exact ⟨vs, by rw [upd_ne (ne_of_none e hq)]; exact e, r.st (.alloc hq)⟩
theorem Holds.alloc {K : PySem.W.Frag} {fr : Frm} {ρ : Rho} {m : Mem} {σ : St} {H : Hp} {q : Addr} {o : HO} (h : Holds K fr ρ m σ H) (hq : H q = none) : Holds K fr ρ m σ (upd H q o) := ⟨h.env.st (.alloc hq), h.mem.alloc hq⟩
/-- a thing that is made here and is not yet shown goes to the frame -/
theorem Ext.push {fr : Frm} {m : Mem} {H : Hp} {q : Addr} {o u : HO} (h : H q = none) : Ext (Ms fr m) H (Ms ((q, u) :: fr) m) (upd H q o) :=
  ⟨fun a u _ e => by rw [upd_ne (ne_of_none e h)]; exact e, fun a z => by
    rcases List.mem_cons.mp z with rfl | z
    · exact .inr h
    · exact .inl z, fun _ z => upd_none z⟩
theorem Ext.pop {fr : Frm} {m : Mem} {H : Hp} {q : Addr} {u : HO} : Ext (Ms ((q, u) :: fr) m) H (Ms fr m) H := ⟨fun _ _ _ e => e, fun _ z => .inl (List.mem_cons_of_mem _ z), fun _ z => z⟩
theorem MemV.push {K : PySem.W.Frag} {fr : Frm} {m : Mem} {H : Hp} {q : Addr} {o : HO} (h : MemV K fr m H) (hq : H q = none) : MemV K ((q, o) :: fr) m (upd H q o) := by
  refine ⟨fun b u z => ?_, fun b As z => ?_, List.nodup_cons.mpr ⟨h.notin hq, h.nd⟩⟩
  · rcases List.mem_cons.mp z with z | z
    · cases z; exact upd_same
    · have e := h.frm b u z
      rw [upd_ne (ne_of_none e hq)]; exact e
  · obtain ⟨vs, e, r⟩ := h.at_ b As z
    exact ⟨vs, by rw [upd_ne (ne_of_none e hq)]; exact e, r.st (.push hq)⟩
theorem MemV.pop {K : PySem.W.Frag} {fr : Frm} {m : Mem} {H : Hp} {q : Addr} {o : HO} (h : MemV K ((q, o) :: fr) m H) : MemV K fr m H :=
  ⟨fun b u z => h.frm b u (List.mem_cons_of_mem _ z), fun b As z => by obtain ⟨vs, e, r⟩ := h.at_ b As z; exact ⟨vs, e, r.st .pop⟩, (List.nodup_cons.mp h.nd).2⟩
/-- the framed thing at the front is rewritten -/
theorem Ext.re {fr : Frm} {m : Mem} {H : Hp} {q : Addr} {u o : HO} : Ext (Ms ((q, u) :: fr) m) H (Ms ((q, o) :: fr) m) (upd H q o) :=
  ⟨fun a x n e => by rw [upd_ne (fun z => n (by rw [z]; exact List.mem_cons_self))]; exact e, fun _ z => .inl z, fun _ z => upd_none z⟩
theorem MemV.re {K : PySem.W.Frag} {fr : Frm} {m : Mem} {H : Hp} {q : Addr} {u o : HO} (h : MemV K ((q, u) :: fr) m H) : MemV K ((q, o) :: fr) m (upd H q o) := by
  have hn := (List.nodup_cons.mp h.nd).1
  refine ⟨fun b x z => ?_, fun b As z => ?_, h.nd⟩
  · rcases List.mem_cons.mp z with z | z
    · cases z; exact upd_same
    · have e := h.frm b x (List.mem_cons_of_mem _ z)
      rw [upd_ne (fun y => hn (by rw [← y]; exact List.mem_append_left _ (List.mem_map.mpr ⟨_, z, rfl⟩)))]; exact e
  · obtain ⟨vs, e, r⟩ := h.at_ b As z
    refine ⟨vs, ?_, r.st .re⟩
    rw [upd_ne (fun y => hn (by rw [← y]; exact List.mem_append_right _ (List.mem_map.mpr ⟨_, z, rfl⟩)))]; exact e
/-- memory that a callee does not see -/
theorem split_ms {fr g : Frm} {m1 m2 : Mem} (hg : g.map (·.1) = m2.map (·.1)) : ∀ x, x ∈ Ms (g ++ fr) m1 ↔ x ∈ Ms fr (m1 ++ m2) := by
  intro x
  unfold Ms
  rw [List.map_append, List.map_append, hg]
  simp only [List.mem_append]
  constructor
  · rintro ((h | h) | h)
    · exact .inr (.inr h)
    · exact .inl h
    · exact .inr (.inl h)
  · rintro (h | h | h)
    · exact .inl (.inr h)
    · exact .inr h
    · exact .inl (.inl h)
theorem Ext.same {M M' : List Addr} {H : Hp} (h : ∀ x, x ∈ M' → x ∈ M) : Ext M H M' H := ⟨fun _ _ _ e => e, fun x z => .inl (h x z), fun _ z => z⟩
/-- the frame that hides m2 -/
theorem hide {K : PySem.W.Frag} {m2 : Mem} {H : Hp} {Z : List Addr} (h : ∀ b c, (b, c) ∈ m2 → ∃ o, H b = some o ∧ CellO K Z H c o) :
    ∃ g : Frm, g.map (·.1) = m2.map (·.1) ∧ (∀ b o, (b, o) ∈ g → H b = some o) ∧ ∀ (H' : Hp) (Z' : List Addr), (∀ b o, (b, o) ∈ g → H' b = some o) → Ext Z H Z' H' → ∀ b c, (b, c) ∈ m2 → ∃ o, H' b = some o ∧ CellO K Z' H' c o := by
  induction m2 with
  | nil => exact ⟨[], rfl, fun _ _ z => absurd z (by simp), fun _ _ _ _ _ _ z => absurd z (by simp)⟩
  | cons p m2 ih =>
    obtain ⟨c, Cs⟩ := p
    obtain ⟨g, e1, e2, e3⟩ := ih fun b As z => h b As (List.mem_cons_of_mem _ z)
    obtain ⟨vs, hv, r⟩ := h c Cs List.mem_cons_self
    refine ⟨(c, vs) :: g, by simp [e1], fun b o z => ?_, fun H' Z' hg x b As z => ?_⟩
    · rcases List.mem_cons.mp z with z | z
      · cases z; exact hv
      · exact e2 b o z
    · rcases List.mem_cons.mp z with z | z
      · cases z
        exact ⟨vs, hg _ _ List.mem_cons_self, r.st x⟩
      · exact e3 H' Z' (fun b o z => hg b o (List.mem_cons_of_mem _ z)) x b As z
/-- a callee's view and back -/
theorem MemV.call {K : PySem.W.Frag} {fr : Frm} {m1 m2 : Mem} {H : Hp} (h : MemV K fr (m1 ++ m2) H) :
    ∃ g : Frm, g.map (·.1) = m2.map (·.1) ∧ MemV K (g ++ fr) m1 H ∧
      ∀ m1' H', Ext (Ms (g ++ fr) m1) H (Ms (g ++ fr) m1') H' → MemV K (g ++ fr) m1' H' → MemV K fr (m1' ++ m2) H' := by
  obtain ⟨g, e1, e2, e3⟩ := hide (m2 := m2) fun b As z => h.at_ b As (List.mem_append_right _ z)
  have hm := split_ms (fr := fr) (m1 := m1) e1
  refine ⟨g, e1, ⟨fun b o z => ?_, fun b As z => ?_, ?_⟩, fun m1' H' x h' => ⟨fun b o z => h'.frm b o (List.mem_append_right _ z), fun b As z => ?_, ?_⟩⟩
  · rcases List.mem_append.mp z with z | z
    · exact e2 b o z
    · exact h.frm b o z
  · obtain ⟨vs, e, r⟩ := h.at_ b As (List.mem_append_left _ z)
    exact ⟨vs, e, r.st (.same fun x z => (hm x).mp z)⟩
  · have nd := h.nd
    unfold Ms at nd ⊢
    rw [List.map_append] at nd ⊢
    rw [e1]
    have p : (m2.map (·.1) ++ fr.map (·.1) ++ m1.map (·.1)).Perm (fr.map (·.1) ++ (m1.map (·.1) ++ m2.map (·.1))) := by
      rw [List.append_assoc]
      refine (List.perm_append_comm).trans ?_
      rw [List.append_assoc]
    exact p.nodup_iff.mpr nd
  · have hm' := split_ms (fr := fr) (m1 := m1') e1
    rcases List.mem_append.mp z with z | z
    · obtain ⟨vs, e, r⟩ := h'.at_ b As z
      exact ⟨vs, e, r.st (.same fun x z => (hm' x).mpr z)⟩
    · refine e3 H' _ (fun b o z => h'.frm b o (List.mem_append_left _ z)) ?_ b As z
      exact ((Ext.same fun x z => (hm x).mp z).trans x).trans (.same fun x z => (hm' x).mpr z)
  · have nd := h'.nd
    unfold Ms at nd ⊢
    rw [List.map_append] at nd ⊢
    rw [e1] at nd
    have p : (m2.map (·.1) ++ fr.map (·.1) ++ m1'.map (·.1)).Perm (fr.map (·.1) ++ (m1'.map (·.1) ++ m2.map (·.1))) := by
      rw [List.append_assoc]
      refine (List.perm_append_comm).trans ?_
      rw [List.append_assoc]
    exact p.nodup_iff.mp nd
/-! ### judgements -/
def wpE (X : Cx) (e : Expr) : TE := fun σ H Q => ∀ (pins : List (Addr × Obj)) (s : Shared), Inv X pins σ H s → wpAny (model X.prog X.w) X.A (eval e X.env) (EP X pins σ Q) X.xe s
def wpT (X : Cx) (e : Expr) : TT := fun σ H Q => ∀ (pins : List (Addr × Obj)) (s : Shared), Inv X pins σ H s → wpAny (model X.prog X.w) X.A (isTrue e X.env (eval e X.env)) (TP X pins σ Q) X.xe s
def wpW (X : Cx) (e : Expr) : TT := fun σ H Q => ∀ (whole : Sem Value) (pins : List (Addr × Obj)) (s : Shared), Inv X pins σ H s → wpAny (model X.prog X.w) X.A (isTrue e X.env whole) (TP X pins σ Q) X.xe s
def wpA (X : Cx) (es : List Expr) : TA := fun σ H Q => ∀ (pos : Pos) (pins : List (Addr × Obj)) (s : Shared), Inv X pins σ H s → wpAny (model X.prog X.w) X.A (spliced (backTo pos (starEach es X.env))) (AP X pins σ Q) X.xe s
def wpS (X : Cx) (st : Stmt) : TS := fun D σ H => ∀ (pins : List (Addr × Obj)) (s : Shared), Inv X pins σ H s → wpAny (model X.prog X.w) X.A (exec st X.env) (SP X pins D) X.xe s
def wpSs (X : Cx) (sts : List Stmt) : TS := fun D σ H => ∀ (pins : List (Addr × Obj)) (s : Shared), Inv X pins σ H s → wpAny (model X.prog X.w) X.A (execs sts X.env) (SP X pins D) X.xe s
theorem wpE_pe {X : Cx} {e : Expr} : PE X e (wpE X e) := ⟨fun pins s _ _ _ I h => h pins s I⟩
theorem wpT_pt {X : Cx} {e : Expr} : PT X e (wpT X e) := ⟨fun pins s _ _ _ I h => h pins s I⟩
theorem wpW_pw {X : Cx} {e : Expr} : PW X e (wpW X e) := ⟨fun wh pins s _ _ _ I h => h wh pins s I⟩
theorem wpA_pa {X : Cx} {es : List Expr} : PA X es (wpA X es) := ⟨fun pos pins s _ _ _ I h => h pos pins s I⟩
theorem wpS_ps {X : Cx} {st : Stmt} : PS X st (wpS X st) := ⟨fun pins s _ _ _ I h => h pins s I⟩
theorem wpSs_pss {X : Cx} {sts : List Stmt} : PSs X sts (wpSs X sts) := ⟨fun pins s _ _ _ I h => h pins s I⟩
theorem le_E {X : Cx} {e : Expr} {t : TE} (h : PE X e t) {σ : St} {H : Hp} {Q : VK} (q : t σ H Q) : wpE X e σ H Q := fun pins s I => h.run pins s σ H Q I q
theorem le_T {X : Cx} {e : Expr} {t : TT} (h : PT X e t) {σ : St} {H : Hp} {Q : Bool → Hp → Prop} (q : t σ H Q) : wpT X e σ H Q := fun pins s I => h.run pins s σ H Q I q
theorem le_W {X : Cx} {e : Expr} {t : TT} (h : PW X e t) {σ : St} {H : Hp} {Q : Bool → Hp → Prop} (q : t σ H Q) : wpW X e σ H Q := fun wh pins s I => h.run wh pins s σ H Q I q
theorem le_A {X : Cx} {es : List Expr} {t : TA} (h : PA X es t) {σ : St} {H : Hp} {Q : List V → Hp → Prop} (q : t σ H Q) : wpA X es σ H Q := fun pos pins s I => h.run pos pins s σ H Q I q
theorem le_S {X : Cx} {st : Stmt} {t : TS} (h : PS X st t) {σ : St} {H : Hp} {D : Ends} (q : t D σ H) : wpS X st D σ H := fun pins s I => h.run pins s σ H D I q
theorem le_Ss {X : Cx} {sts : List Stmt} {t : TS} (h : PSs X sts t) {σ : St} {H : Hp} {D : Ends} (q : t D σ H) : wpSs X sts D σ H := fun pins s I => h.run pins s σ H D I q
abbrev KA := AV → Mem → Prop
/-- what stands behind: some outcome that is wanted -/
def Got (K : PySem.W.Frag) (fr : Frm) (ρ : Rho) (m : Mem) (σ : St) (H : Hp) (Kt : KA) (Q : VK) : Prop :=
  ∀ A m' v H', Kt A m' → Ext (Ms fr m) H (Ms fr m') H' → Holds K fr ρ m' σ H' → A.p K (Ms fr m') H' v → Q v H'
def WE (X : Cx) (e : Expr) (ρ : Rho) (m : Mem) (Kt : KA) : Prop :=
  ∀ fr σ H, Holds X.K fr ρ m σ H → ∀ Q : VK, Got X.K fr ρ m σ H Kt Q → wpE X e σ H Q
abbrev KT := Bool → Mem → Prop
def GotT (K : PySem.W.Frag) (fr : Frm) (ρ : Rho) (m : Mem) (σ : St) (H : Hp) (Kt : KT) (Q : Bool → Hp → Prop) : Prop :=
  ∀ b m' H', Kt b m' → Ext (Ms fr m) H (Ms fr m') H' → Holds K fr ρ m' σ H' → Q b H'
def WT (X : Cx) (e : Expr) (ρ : Rho) (m : Mem) (Kt : KT) : Prop :=
  ∀ fr σ H, Holds X.K fr ρ m σ H → ∀ Q, GotT X.K fr ρ m σ H Kt Q → wpT X e σ H Q
def WW (X : Cx) (e : Expr) (ρ : Rho) (m : Mem) (Kt : KT) : Prop :=
  ∀ fr σ H, Holds X.K fr ρ m σ H → ∀ Q, GotT X.K fr ρ m σ H Kt Q → wpW X e σ H Q
abbrev KL := List AV → Mem → Prop
def GotL (K : PySem.W.Frag) (fr : Frm) (ρ : Rho) (m : Mem) (σ : St) (H : Hp) (Kt : KL) (Q : List V → Hp → Prop) : Prop :=
  ∀ As m' vs H', Kt As m' → Ext (Ms fr m) H (Ms fr m') H' → Holds K fr ρ m' σ H' → AllV K (Ms fr m') H' As vs → Q vs H'
def WA (X : Cx) (es : List Expr) (ρ : Rho) (m : Mem) (Kt : KL) : Prop :=
  ∀ fr σ H, Holds X.K fr ρ m σ H → ∀ Q, GotL X.K fr ρ m σ H Kt Q → wpA X es σ H Q
/-- what is wanted behind a statement -/
structure EndsA where
  nx : Rho → Mem → Prop
  rt : KA
  bk : Rho → Mem → Prop := fun _ _ => False
  ct : Rho → Mem → Prop := fun _ _ => False
structure GotS (K : PySem.W.Frag) (fr : Frm) (m : Mem) (H : Hp) (E : EndsA) (D : Ends) : Prop where
  nx : ∀ ρ' m' σ' H', E.nx ρ' m' → Ext (Ms fr m) H (Ms fr m') H' → Holds K fr ρ' m' σ' H' → D.nx σ' H'
  rt : ∀ A m' v H', E.rt A m' → Ext (Ms fr m) H (Ms fr m') H' → MemV K fr m' H' → A.p K (Ms fr m') H' v → D.rt v H'
  bk : ∀ ρ' m' σ' H', E.bk ρ' m' → Ext (Ms fr m) H (Ms fr m') H' → Holds K fr ρ' m' σ' H' → D.bk σ' H'
  ct : ∀ ρ' m' σ' H', E.ct ρ' m' → Ext (Ms fr m) H (Ms fr m') H' → Holds K fr ρ' m' σ' H' → D.ct σ' H'
def WS (X : Cx) (st : Stmt) (ρ : Rho) (m : Mem) (E : EndsA) : Prop :=
  ∀ fr σ H, Holds X.K fr ρ m σ H → ∀ D, GotS X.K fr m H E D → wpS X st D σ H
def WSs (X : Cx) (sts : List Stmt) (ρ : Rho) (m : Mem) (E : EndsA) : Prop :=
  ∀ fr σ H, Holds X.K fr ρ m σ H → ∀ D, GotS X.K fr m H E D → wpSs X sts D σ H
theorem Got.from {K : PySem.W.Frag} {fr : Frm} {ρ : Rho} {m m1 : Mem} {σ : St} {H H1 : Hp} {Kt : KA} {Q : VK} (g : Got K fr ρ m σ H Kt Q) (x : Ext (Ms fr m) H (Ms fr m1) H1) : Got K fr ρ m1 σ H1 Kt Q := fun A m' v H' k e h r => g A m' v H' k (x.trans e) h r
theorem GotT.from {K : PySem.W.Frag} {fr : Frm} {ρ : Rho} {m m1 : Mem} {σ : St} {H H1 : Hp} {Kt : KT} {Q : Bool → Hp → Prop} (g : GotT K fr ρ m σ H Kt Q) (x : Ext (Ms fr m) H (Ms fr m1) H1) : GotT K fr ρ m1 σ H1 Kt Q := fun A m' H' k e h => g A m' H' k (x.trans e) h
theorem GotL.from {K : PySem.W.Frag} {fr : Frm} {ρ : Rho} {m m1 : Mem} {σ : St} {H H1 : Hp} {Kt : KL} {Q : List V → Hp → Prop} (g : GotL K fr ρ m σ H Kt Q) (x : Ext (Ms fr m) H (Ms fr m1) H1) : GotL K fr ρ m1 σ H1 Kt Q := fun A m' v H' k e h r => g A m' v H' k (x.trans e) h r
theorem GotS.from {K : PySem.W.Frag} {fr : Frm} {m m1 : Mem} {H H1 : Hp} {E : EndsA} {D : Ends} (g : GotS K fr m H E D) (x : Ext (Ms fr m) H (Ms fr m1) H1) : GotS K fr m1 H1 E D :=
  ⟨fun a b c d k e h => g.nx a b c d k (x.trans e) h, fun a b c d k e h r => g.rt a b c d k (x.trans e) h r, fun a b c d k e h => g.bk a b c d k (x.trans e) h, fun a b c d k e h => g.ct a b c d k (x.trans e) h⟩
/-- one value, then what follows -/
theorem WE.to {X : Cx} {e : Expr} {ρ : Rho} {m : Mem} {Kt : KA} (h : WE X e ρ m Kt) {fr : Frm} {σ : St} {H : Hp} (o : Holds X.K fr ρ m σ H) {Q : VK}
    (k : ∀ A m' v H', Kt A m' → Ext (Ms fr m) H (Ms fr m') H' → Holds X.K fr ρ m' σ H' → A.p X.K (Ms fr m') H' v → Q v H') : wpE X e σ H Q := h fr σ H o Q k
theorem WE.mono {X : Cx} {e : Expr} {ρ : Rho} {m : Mem} {Kt Kt' : KA} (h : WE X e ρ m Kt) (k : ∀ A m', Kt A m' → Kt' A m') : WE X e ρ m Kt' := fun fr σ H o Q g => h fr σ H o Q fun A m' v H' z => g A m' v H' (k A m' z)
/-! ### where one stands -/
structure At (P : Program) (w : World) (K : PySem.W.Frag) (mg : Str → Option Value) (base : Heap) (N : List Str) (sc : Scope) (df : Bool) (k : Nat) (X : Cx) : Prop where
  prog : X.prog = P
  wd : X.w = w
  kt : X.K = K
  mt : X.mg = mg
  bas : X.base = base
  nm : X.N = N
  sce : X.env.scope = sc
  calm : X.calm = true
  room : Room k X.A
  nd : N.Nodup
  fnc : df = true → ∀ x, X.fn x = true
  pso : PassesOwn (model X.prog X.w) X.A X.env X.xe
section
variable {P : Program} {w : World} {K : PySem.W.Frag} {mg : Str → Option Value} {base : Heap} {N : List Str} {sc : Scope} {df : Bool} {k : Nat} {X : Cx} (a : At P w K mg base N sc df k X)
variable {ρ : Rho} {m : Mem} {Kt : KA} {pos : Pos}
/-! ### names and constants -/
theorem we_leaf {e : Expr} {A : AV} {v : V} (h : PE X e (tC v)) (r : ∀ M H, A.p X.K M H v) (q : Kt A m) : WE X e ρ m Kt :=
  fun fr σ H o Q g => le_E h (g A m v H q (.refl _ _) o (r _ _))
theorem we_int {i : Int} {j} (q : Kt (int i) m) : WE X (.Constant (.int i) j pos) ρ m Kt := we_leaf pe_int (fun _ _ => rfl) q
theorem we_bool {i : Bool} {j} (q : Kt (bool i) m) : WE X (.Constant (.bool i) j pos) ρ m Kt := we_leaf pe_bl (fun _ _ => rfl) q
theorem we_none {j} (q : Kt non m) : WE X (.Constant .none j pos) ρ m Kt := we_leaf pe_non (fun _ _ => rfl) q
theorem we_str {x : Str} {j} (q : Kt (str x) m) : WE X (.Constant (.str x) j pos) ρ m Kt := we_leaf pe_str (fun _ _ => rfl) q
include a in
theorem we_name (i : Nat) {x : Str} {A : AV} (hN : N[i]? = some x) (hv : sc.names.lookup x = some .local ∨ sc.names.lookup x = some .cell ∨ sc.names.lookup x = some .free) (hA : ρ[i]? = some (some A)) (q : Kt A m)
    (hd : (x == ("__debug__" : Str)) = false := by decide) (hcd : (x == ("__classdict__" : Str)) = false := by decide) : WE X (.Name x pos) ρ m Kt := by
  intro fr σ H o Q g
  obtain ⟨v, e, r⟩ := o.env.get hA
  refine le_E (pe_var (i := i) (by rw [a.nm]; exact hN) (by unfold Vis; rw [a.sce]; exact hv) hd hcd) ⟨v, e, g A m v H q (.refl _ _) o r⟩
theorem gl_of (a : At P w K mg base N sc df k X) {x : Str} (h : sc.names.lookup x = some .globalImplicit) : Gl X x := by
  unfold Gl
  show X.env.scope.names.lookup x = _
  rw [a.sce]; exact h
include a in
/-- a module's constant -/
theorem we_glob {x : Str} {v : V} {u : Value} {A : AV} (hg : sc.names.lookup x = some .globalImplicit) (hm : mg x = some u) (r : RelV v u) (hA : ∀ M H, A.p K M H v) (q : Kt A m) (hd : (x == ("__debug__" : Str)) = false := by decide) : WE X (.Name x pos) ρ m Kt :=
  we_leaf (pe_glob (gl_of a hg) (by rw [a.mt]; exact hm) r hd) (by rw [a.kt]; exact hA) q
include a in
theorem we_bltn {x : Str} {v : V} {u : Value} (hg : sc.names.lookup x = some .globalImplicit) (hm : mg x = none) (hv : bootBuiltins x = some u) (r : RelV v u) (q : Kt (val v) m) (hn : x ≠ "__name__" := by decide) (hd : (x == ("__debug__" : Str)) = false := by decide) : WE X (.Name x pos) ρ m Kt :=
  we_leaf (pe_bltn (gl_of a hg) (by rw [a.mt]; exact hm) hv r hn hd) (fun _ _ => rfl) q
/-! ### operators -/
abbrev KOp := AV → AV → Mem → KA → Prop
/-- an operator by values, told of abstract values -/
def AbsOp (K : PySem.W.Frag) (r : R2) (R : KOp) : Prop :=
  ∀ (A B : AV) (m : Mem) (Kt : KA) (fr : Frm) (ρ : Rho) (σ : St) (H : Hp) (x y : V) (Q : VK), R A B m Kt → Holds K fr ρ m σ H → A.p K (Ms fr m) H x → B.p K (Ms fr m) H y → Got K fr ρ m σ H Kt Q → r x y H Q
theorem two {e f : Expr} {r : R2} {R : KOp} (hr : AbsOp X.K r R) (h : WE X e ρ m fun A m1 => WE X f ρ m1 fun B m2 => R A B m2 Kt) {fr : Frm} {σ : St} {H : Hp} (o : Holds X.K fr ρ m σ H) {Q : VK} (g : Got X.K fr ρ m σ H Kt Q) :
    tOp r (wpE X e) (wpE X f) σ H Q := by
  refine h.to o fun A m1 v H1 h1 x1 o1 r1 => h1.to o1 fun B m2 u H2 h2 x2 o2 r2 => ?_
  exact hr A B m2 Kt fr ρ σ H2 v u Q h2 o2 (A.st r1 x2) r2 (g.from (x1.trans x2))
theorem we_bin {e f : Expr} {op : Operator} {r : R2} {R : KOp} (ho : OpR X (binaryOp op) r) (hr : AbsOp X.K r R) (h : WE X e ρ m fun A m1 => WE X f ρ m1 fun B m2 => R A B m2 Kt) : WE X (.BinOp e op f pos) ρ m Kt :=
  fun fr σ H o Q g => le_E (pe_op ho wpE_pe wpE_pe) (two hr h o g)
theorem we_cmp {e f : Expr} {op : CmpOp} {r : R2} {R : KOp} (ho : OpR X (compareOp op) r) (hr : AbsOp X.K r R) (hm : behindInMarks op f = false) (h : WE X e ρ m fun A m1 => WE X f ρ m1 fun B m2 => R A B m2 Kt) : WE X (.Compare e [op] [f] pos) ρ m Kt :=
  fun fr σ H o Q g => le_E (pe_cmpR ho wpE_pe wpE_pe hm) (two hr h o g)
/-- ints -/
def RI (C : Int → Int → Prop) (f : Int → Int → V) : KOp := fun A B m Kt => ∃ i j, A = int i ∧ B = int j ∧ C i j ∧ Kt (val (f i j)) m
theorem abs_I {C : Int → Int → Prop} {f : Int → Int → V} : AbsOp K (rI C f) (RI C f) := by
  rintro A B m Kt fr ρ σ H x y Q ⟨i, j, rfl, rfl, c, q⟩ o rx ry g
  exact ⟨i, j, rx, ry, c, g _ m _ H q (.refl _ _) o rfl⟩
theorem abs_I0 {f : Int → Int → V} : AbsOp K (rI0 f) (RI (fun _ _ => True) f) := by
  rintro A B m Kt fr ρ σ H x y Q ⟨i, j, rfl, rfl, _, q⟩ o rx ry g
  exact ⟨i, j, rx, ry, g _ m _ H q (.refl _ _) o rfl⟩
end
end AL
namespace AL
open PySem PySem.Spec L2
open PyProof.Rows hiding St
/-- by a bool -/
def Br (b : Bool) (A B : Prop) : Prop := match b with
  | true => A
  | false => B
theorem br {b : Bool} {A B : Prop} (h1 : b = true → A) (h2 : b = false → B) : Br b A B := by
  cases b with
  | true => exact h1 rfl
  | false => exact h2 rfl
theorem brT {b : Bool} {A B : Prop} (h : b = true) (h1 : A) : Br b A B := by rw [h]; exact h1
theorem brF {b : Bool} {A B : Prop} (h : b = false) (h1 : B) : Br b A B := by rw [h]; exact h1
theorem Br.ite {b : Bool} {A B : Prop} (h : Br b A B) : if b = true then A else B := by cases b with
  | true => exact h
  | false => exact h
section
variable {P : Program} {w : World} {K : PySem.W.Frag} {mg : Str → Option Value} {base : Heap} {N : List Str} {sc : Scope} {df : Bool} {k : Nat} {X : Cx}
variable {ρ : Rho} {m : Mem} {Kt : KA} {pos : Pos} {e f : Expr}
theorem Holds.ex {fr : Frm} {σ : St} {H : Hp} (o : Holds K fr ρ m σ H) : MemV K fr m H := o.mem
/-! ### tests -/
variable {Kb : KT}
theorem wt_val (h : WE X e ρ m fun A m1 => ∃ b, A = bool b ∧ Kb b m1) (he : ∀ whole, isTrue e X.env whole = (do let v ← whole; standAt e.pos; holding [v] (truthy v)) := by intro _; rfl) : WT X e ρ m Kb :=
  fun fr σ H o Q g => le_T (pt_val wpE_pe he) (h.to o fun A m' v H' ⟨b, ea, q⟩ x o' r => by
    subst ea
    exact ⟨b, r, g b m' H' q x o'⟩)
theorem wt_cmp {op : CmpOp} {r : R2} {R : KOp} (ho : OpR X (compareOp op) r) (hr : AbsOp X.K r R) (hm : behindInMarks op f = false) (h : WE X e ρ m fun A m1 => WE X f ρ m1 fun B m2 => R A B m2 fun C m3 => ∃ b, C = bool b ∧ Kb b m3) : WT X (.Compare e [op] [f] pos) ρ m Kb :=
  fun fr σ H o Q g => le_T (pt_cmpR ho wpE_pe wpE_pe hm) (two hr h o fun A m' v H' ⟨b, ea, q⟩ x o' r => by
    subst ea
    exact ⟨b, r, g b m' H' q x o'⟩)
theorem wt_not (h : WT X e ρ m fun b m1 => Kb (!b) m1) : WT X (.UnaryOp .Not e pos) ρ m Kb :=
  fun fr σ H o Q g => le_T (pt_not wpT_pt) (h fr σ H o _ fun b m' H' q x o' => g (!b) m' H' q x o')
theorem wt_of {op es} (h : WW X (.BoolOp op es pos) ρ m Kb) : WT X (.BoolOp op es pos) ρ m Kb :=
  fun fr σ H o Q g => le_T (PW.pt wpW_pw) (h fr σ H o Q g)
theorem ww_and1 (h : WT X e ρ m Kb) : WW X (.BoolOp .And [e] pos) ρ m Kb := fun fr σ H o Q g => le_W (pw_and1 wpT_pt) (h fr σ H o Q g)
theorem ww_or1 (h : WT X e ρ m Kb) : WW X (.BoolOp .Or [e] pos) ρ m Kb := fun fr σ H o Q g => le_W (pw_or1 wpT_pt) (h fr σ H o Q g)
theorem ww_and {rest} (h : WT X e ρ m fun b m1 => Br b (WW X (.BoolOp .And (f :: rest) pos) ρ m1 Kb) (Kb false m1)) : WW X (.BoolOp .And (e :: f :: rest) pos) ρ m Kb :=
  fun fr σ H o Q g => le_W (pw_and wpT_pt wpW_pw) (h fr σ H o _ fun b m' H' q x o' => by
    cases b with
    | true => exact q fr σ H' o' Q (g.from x)
    | false => exact g false m' H' q x o')
theorem ww_or {rest} (h : WT X e ρ m fun b m1 => Br b (Kb true m1) (WW X (.BoolOp .Or (f :: rest) pos) ρ m1 Kb)) : WW X (.BoolOp .Or (e :: f :: rest) pos) ρ m Kb :=
  fun fr σ H o Q g => le_W (pw_or wpT_pt wpW_pw) (h fr σ H o _ fun b m' H' q x o' => by
    cases b with
    | true => exact g true m' H' q x o'
    | false => exact q fr σ H' o' Q (g.from x))
/-! ### choices -/
theorem we_ifexp {c : Expr} (h : WT X c ρ m fun b m1 => Br b (WE X e ρ m1 Kt) (WE X f ρ m1 Kt)) : WE X (.IfExp c e f pos) ρ m Kt :=
  fun fr σ H o Q g => le_E (pe_ifExp wpT_pt wpE_pe wpE_pe) (h fr σ H o _ fun b m' H' q x o' => by
    cases b with
    | true => exact q fr σ H' o' Q (g.from x)
    | false => exact q fr σ H' o' Q (g.from x))
theorem we_one {op} (h : WE X e ρ m Kt) : WE X (.BoolOp op [e] pos) ρ m Kt := fun fr σ H o Q g => le_E (pe_one wpE_pe) (h fr σ H o Q g)
theorem we_and {rest} (h : WE X e ρ m fun A m1 => ∃ b, A = bool b ∧ Br b (WE X (.BoolOp .And (f :: rest) pos) ρ m1 Kt) (Kt (bool false) m1)) : WE X (.BoolOp .And (e :: f :: rest) pos) ρ m Kt :=
  fun fr σ H o Q g => le_E (pe_and wpE_pe wpE_pe) (h.to o fun A m' v H' ⟨b, ea, q⟩ x o' r => by
    subst ea
    refine ⟨b, r, ?_⟩
    cases b with
    | true => exact q fr σ H' o' Q (g.from x)
    | false => exact g _ m' _ H' q x o' rfl)
theorem we_or {rest} (h : WE X e ρ m fun A m1 => ∃ b, A = bool b ∧ Br b (Kt (bool true) m1) (WE X (.BoolOp .Or (f :: rest) pos) ρ m1 Kt)) : WE X (.BoolOp .Or (e :: f :: rest) pos) ρ m Kt :=
  fun fr σ H o Q g => le_E (pe_or wpE_pe wpE_pe) (h.to o fun A m' v H' ⟨b, ea, q⟩ x o' r => by
    subst ea
    refine ⟨b, r, ?_⟩
    cases b with
    | true => exact g _ m' _ H' q x o' rfl
    | false => exact q fr σ H' o' Q (g.from x))
theorem we_not (h : WE X e ρ m fun A m1 => ∃ b, A = bool b ∧ Kt (bool (!b)) m1) : WE X (.UnaryOp .Not e pos) ρ m Kt :=
  fun fr σ H o Q g => le_E (pe_not wpE_pe) (h.to o fun A m' v H' ⟨b, ea, q⟩ x o' r => by
    subst ea
    exact ⟨b, r, g _ m' _ H' q x o' rfl⟩)
theorem we_neg (h : WE X e ρ m fun A m1 => ∃ i, A = int i ∧ Kt (int (-i)) m1) : WE X (.UnaryOp .USub e pos) ρ m Kt :=
  fun fr σ H o Q g => le_E (pe_un un_neg wpE_pe) (h.to o fun A m' v H' ⟨b, ea, q⟩ x o' r => by
    subst ea
    exact ⟨b, r, g _ m' _ H' q x o' rfl⟩)
/-! ### arguments, displays -/
variable {es : List Expr} {Kl : KL}
theorem wa_nil (h : Kl [] m) : WA X [] ρ m Kl := fun fr σ H o Q g => le_A pa_nil (g [] m [] H h (.refl _ _) o .nil)
theorem wa_cons (h : WE X e ρ m fun A m1 => WA X es ρ m1 fun As m2 => Kl (A :: As) m2) (hs : starEach (e :: es) X.env = (false, eval e X.env) :: starEach es X.env := by rfl) : WA X (e :: es) ρ m Kl :=
  fun fr σ H o Q g => le_A (pa_cons wpE_pe wpA_pa hs) (h.to o fun A m1 v H1 h1 x1 o1 r1 => h1 fr σ H1 o1 _ fun As m2 vs H2 h2 x2 o2 r2 =>
    g (A :: As) m2 (v :: vs) H2 h2 (x1.trans x2) o2 (.cons (A.st r1 x2) r2))
theorem at_new {fr : Frm} {H : Hp} {q : Addr} {xs : List V} (o : MemV K fr m H) (hq : H q = none) : TupAt K (Ms fr m) (upd H q (.tup xs)) q xs := .inl ⟨.inl upd_same, o.notin hq⟩
theorem at_newL {fr : Frm} {H : Hp} {q : Addr} {xs : List V} (o : MemV K fr m H) (hq : H q = none) : ListAt (Ms fr m) (upd H q (.lst xs)) q xs := ⟨upd_same, o.notin hq⟩
theorem we_tup {ctx} (h : WA X es ρ m fun As m1 => As.length ≤ 1000 ∧ Kt (tup As) m1) : WE X (.Tuple es ctx pos) ρ m Kt :=
  fun fr σ H o Q g => le_E (pe_tup wpA_pa) (h fr σ H o _ fun As m1 vs H1 ⟨hl, h1⟩ x1 o1 r1 =>
    ⟨Nat.le_of_lt (small1000 (by rw [← r1.length]; exact hl)), fun q hq => g _ m1 _ _ h1 (x1.trans (.alloc hq)) (o1.alloc hq) ⟨q, vs, rfl, at_new o1.mem hq, r1.st (.alloc hq)⟩⟩)
/-- a new list that may be changed: what follows is told for it -/
def WN (X : Cx) (e : Expr) (ρ : Rho) (m : Mem) (Kl : KL) : Prop :=
  ∀ fr σ H, Holds X.K fr ρ m σ H → ∀ Q : VK, (∀ As m' q vs H', Kl As m' → Ext (Ms fr m) H (Ms ((q, .lst vs) :: fr) m') H' → Holds X.K ((q, .lst vs) :: fr) ρ m' σ H' → AllV X.K (Ms ((q, .lst vs) :: fr) m') H' As vs → Q (.ref q) H') → wpE X e σ H Q
theorem new_lst {fr : Frm} {q : Addr} {vs : List V} {As : List AV} {σ : St} {H : Hp} (o : Holds K ((q, .lst vs) :: fr) ρ m σ H) (r : AllV K (Ms ((q, .lst vs) :: fr) m) H As vs) : Holds K fr ρ m σ H ∧ (lst As).p K (Ms fr m) H (.ref q) :=
  ⟨⟨o.env.st .pop, o.mem.pop⟩, q, vs, rfl, ⟨o.mem.frm _ _ List.mem_cons_self, (List.nodup_cons.mp o.mem.nd).1⟩, r.st .pop⟩
theorem WN.we (h : WN X e ρ m fun As m1 => Kt (lst As) m1) : WE X e ρ m Kt :=
  fun fr σ H o Q g => h fr σ H o Q fun As m' q vs H' k x o' r => g _ m' _ H' k (x.trans .pop) (new_lst o' r).1 (new_lst o' r).2
theorem wn_list (h : WA X es ρ m fun As m1 => As.length ≤ 1000 ∧ Kl As m1) : WN X (.List es pos) ρ m Kl :=
  fun fr σ H o Q g => le_E (pe_lst wpA_pa) (h fr σ H o _ fun As m1 vs H1 ⟨hl, h1⟩ x1 o1 r1 =>
    ⟨Nat.le_of_lt (small1000 (by rw [← r1.length]; exact hl)), fun q hq => g As m1 q vs _ h1 (x1.trans (.push hq)) ⟨o1.env.st (.push hq), o1.mem.push hq⟩ (r1.st (.push hq))⟩)
end
end AL
namespace AL
open PySem PySem.Spec L2
open PyProof.Rows hiding St
section
variable {P : Program} {w : World} {K : PySem.W.Frag} {mg : Str → Option Value} {base : Heap} {N : List Str} {sc : Scope} {df : Bool} {k : Nat} {X : Cx}
variable {ρ : Rho} {m : Mem} {Kt : KA} {pos : Pos} {e f : Expr} {E : EndsA}
/-! ### statements -/
theorem wss_nil (h : E.nx ρ m) : WSs X [] ρ m E := fun fr σ H o D g => le_Ss pss_nil (g.nx ρ m σ H h (.refl _ _) o)
theorem wss_cons {st : Stmt} {rest : List Stmt} (h : WS X st ρ m { E with nx := fun ρ1 m1 => WSs X rest ρ1 m1 E }) : WSs X (st :: rest) ρ m E :=
  fun fr σ H o D g => le_Ss (pss_cons wpS_ps wpSs_pss) (h fr σ H o _ ⟨fun ρ1 m1 σ1 H1 q x o1 => q fr σ1 H1 o1 D (g.from x), g.rt, g.bk, g.ct⟩)
theorem ws_ret (h : WE X e ρ m E.rt) : WS X (.Return (some e) pos) ρ m E :=
  fun fr σ H o D g => le_S (ps_ret wpE_pe) (h.to o fun A m' v H' q x o' r => g.rt A m' v H' q x o'.mem r)
theorem ws_expr (h : WE X e ρ m fun _ m1 => E.nx ρ m1) (hs : swapsWith e none pos.line X.env = pure false := by rfl) : WS X (.Expr e pos) ρ m E :=
  fun fr σ H o D g => le_S (ps_expr wpE_pe hs) (h.to o fun A m' v H' q x o' r => g.nx ρ m' σ H' q x o')
theorem ws_if {c : Expr} {a b : List Stmt} (h : WT X c ρ m fun t m1 => Br t (WSs X a ρ m1 E) (WSs X b ρ m1 E)) : WS X (.If c a b pos) ρ m E :=
  fun fr σ H o D g => le_S (ps_if wpT_pt wpSs_pss wpSs_pss) (h fr σ H o _ fun t m' H' q x o' => by
    cases t with
    | true => exact q fr σ H' o' D (g.from x)
    | false => exact q fr σ H' o' D (g.from x))
/-! targets -/
def wpG (X : Cx) (tg : Expr) : TG := fun v σ H Q => ∀ (pins : List (Addr × Obj)) (s : Shared) (u : Value), Inv X pins σ H s → RelV v u →
    wpAny (model X.prog X.w) X.A (assign tg X.env u) (fun _ s' => ∃ σ' H', Inv X pins σ' H' s' ∧ Q σ' H') X.xe s
theorem wpG_pg {tg : Expr} : PG X tg (wpG X tg) := ⟨fun pins s _ _ _ u _ I r h => h pins s u I r⟩
theorem le_G {tg : Expr} {t : TG} (h : PG X tg t) {v : V} {σ : St} {H : Hp} {Q : St → Hp → Prop} (q : t v σ H Q) : wpG X tg v σ H Q := fun pins s u I r => h.run pins s σ H v u Q I r q
abbrev KG := Rho → Mem → Prop
def WG (X : Cx) (tg : Expr) (A : AV) (ρ : Rho) (m : Mem) (Kg : KG) : Prop :=
  ∀ fr σ H v, Holds X.K fr ρ m σ H → A.p X.K (Ms fr m) H v → ∀ Q : St → Hp → Prop, (∀ ρ' m' σ' H', Kg ρ' m' → Ext (Ms fr m) H (Ms fr m') H' → Holds X.K fr ρ' m' σ' H' → Q σ' H') → wpG X tg v σ H Q
variable {Kg : KG} {A : AV} (a : At P w K mg base N sc df k X)
include a in
theorem pgn (i : Nat) {x : Str} (hN : N[i]? = some x) (hl : sc.names.lookup x = some .local ∨ (df = true ∧ sc.names.lookup x = some .cell)) : PG X (.Name x pos) (gName i) := by
  refine pg_name (by rw [a.nm]; exact a.nd) (by rw [a.nm]; exact hN) ?_ ?_
  · unfold L2.Loc
    rw [a.sce]
    rcases hl with h | h
    · exact .inl h
    · exact .inr h.2
  · rcases hl with h | h
    · exact .inr (by rw [a.sce]; exact h)
    · exact .inl (a.fnc h.1 x)
include a in
theorem wg_name (i : Nat) {x : Str} (hN : N[i]? = some x) (hl : sc.names.lookup x = some .local ∨ (df = true ∧ sc.names.lookup x = some .cell)) (h : Kg (ρ.set i (some A)) m) : WG X (.Name x pos) A ρ m Kg :=
  fun fr σ H v o r Q g => le_G (pgn a i hN hl) (g _ m _ H h (.refl _ _) ⟨o.env.set r i, o.mem⟩)
/-- several names -/
def setAll (ρ : Rho) : List (Nat × AV) → Rho
  | [] => ρ
  | (i, A) :: r => setAll (ρ.set i (some A)) r
include a in
theorem pgs_names (js : List (Nat × Str × Pos)) (h : ∀ j ∈ js, N[j.1]? = some j.2.1 ∧ (sc.names.lookup j.2.1 = some .local ∨ (df = true ∧ sc.names.lookup j.2.1 = some .cell))) :
    PGs X (js.map fun j => .Name j.2.1 j.2.2) (js.foldr (fun j t => gCons (gName j.1) t) gNil) := by
  induction js with
  | nil => exact pgs_nil
  | cons j js ih => exact pgs_cons (pgn a j.1 (h j List.mem_cons_self).1 (h j List.mem_cons_self).2) (ih fun z hz => h z (List.mem_cons_of_mem _ hz))
theorem names_run {fr : Frm} : ∀ (js : List Nat) (As : List AV) (vs : List V) (ρ : Rho) (σ : St) (H : Hp) (Q : St → Hp → Prop), js.length = As.length → EnvV K (Ms fr m) H ρ σ → AllV K (Ms fr m) H As vs →
    (∀ σ', EnvV K (Ms fr m) H (setAll ρ (js.zip As)) σ' → Q σ' H) → js.foldr (fun j t => gCons (gName j) t) gNil vs σ H Q
  | [], [], [], ρ, σ, H, Q, _, o, .nil, g => ⟨rfl, g σ o⟩
  | j :: js, A :: As, v :: vs, ρ, σ, H, Q, hl, o, .cons r t, g => ⟨v, vs, rfl, names_run js As vs _ _ H Q (by simpa using hl) (o.set r j) t g⟩
  | [], _ :: _, _, _, _, _, _, hl, _, _, _ => by simp at hl
  | _ :: _, [], _, _, _, _, _, hl, _, _, _ => by simp at hl
include a in
theorem wg_tup (js : List (Nat × Str × Pos)) {ctx} {es : List Expr} {As : List AV} (hes : es = js.map fun j => .Name j.2.1 j.2.2) (hA : A = tup As) (hl : js.length = As.length)
    (hj : ∀ j ∈ js, N[j.1]? = some j.2.1 ∧ (sc.names.lookup j.2.1 = some .local ∨ (df = true ∧ sc.names.lookup j.2.1 = some .cell)))
    (hn : (assignEach es X.env).length = js.length) (hst : (assignEach es X.env).findIdx? (·.1) = none) (h : Kg (setAll ρ ((js.map (·.1)).zip As)) m) : WG X (.Tuple es ctx pos) A ρ m Kg := by
  intro fr σ H v o r Q g
  subst hA
  subst hes
  obtain ⟨p, vs, rfl, ht, hr⟩ := r
  refine le_G (pg_tup a.calm (pgs_names a js hj) hn hst) ⟨p, vs, rfl, ht.sq, by rw [← hr.length, hl], ?_⟩
  have q := names_run (K := X.K) (m := m) (fr := fr) (js.map (·.1)) As vs ρ σ H Q (by rw [List.length_map, hl]) o.env hr (fun σ' o' => g _ m σ' H h (.refl _ _) ⟨o', o.mem⟩)
  rw [List.foldr_map] at q
  exact q
theorem ws_asg {tg : Expr} (h : WE X e ρ m fun A m1 => WG X tg A ρ m1 E.nx) (hs : swapsWithSole [tg] e pos.line X.env = pure false := by rfl) (hw : swappedStores [tg] e X.env = pure none := by rfl)
    (h1 : (assignEach [tg] X.env).map (·.2) = [assign tg X.env] := by rfl) : WS X (.Assign [tg] e pos) ρ m E :=
  fun fr σ H o D g => le_S (ps_asg wpE_pe wpG_pg hs hw h1) (h.to o fun A m' v H' q x o' r => q fr σ H' v o' r _ fun ρ2 m2 σ2 H2 q2 x2 o2 => g.nx ρ2 m2 σ2 H2 q2 (x.trans x2) o2)
include a in
theorem ws_set (i : Nat) {x : Str} {pos' : Pos} (hN : N[i]? = some x) (hl : sc.names.lookup x = some .local ∨ (df = true ∧ sc.names.lookup x = some .cell)) (h : WE X e ρ m fun A m1 => E.nx (ρ.set i (some A)) m1)
    (hs : swapsWith e (some (.Name x pos')) pos.line X.env = pure false := by rfl) : WS X (.Assign [.Name x pos'] e pos) ρ m E := by
  intro fr σ H o D g
  refine le_S (ps_set (i := i) (by rw [a.nm]; exact a.nd) (by rw [a.nm]; exact hN) ?_ wpE_pe hs ?_) (h.to o fun A m' v H' q x o' r => g.nx _ m' _ H' q x ⟨o'.env.set r i, o'.mem⟩)
  · unfold L2.Loc
    rw [a.sce]
    rcases hl with h | h
    · exact .inl h
    · exact .inr h.2
  · rcases hl with h | h
    · exact .inr (by rw [a.sce]; exact h)
    · exact .inl (a.fnc h.1 x)
theorem nd_snoc {fr : Frm} {q : Addr} {As : Cell} (nd : (Ms fr m).Nodup) (nq : q ∉ Ms fr m) : (Ms fr (m ++ [(q, As)])).Nodup := by
  unfold Ms at *
  rw [List.map_append, ← List.append_assoc]
  refine List.nodup_append.mpr ⟨nd, by simp, fun x hx y hy => ?_⟩
  rw [List.map_cons, List.map_nil, List.mem_singleton] at hy
  intro e; subst e; subst hy; exact nq hx
theorem mem_snoc {fr : Frm} {q : Addr} {As : List AV} {vs : List V} {H : Hp} (o : MemV K fr m H) (nq : q ∉ Ms fr m) (hv : H q = some (.lst vs)) (r : AllV K (Ms fr m) H As vs) (x : Ext (Ms fr m) H (Ms fr (m ++ [(q, .l As)])) H) : MemV K fr (m ++ [(q, .l As)]) H := by
  refine ⟨o.frm, fun b Bs z => ?_, nd_snoc o.nd nq⟩
  rcases List.mem_append.mp z with z | z
  · obtain ⟨us, e, r'⟩ := o.at_ b Bs z
    exact ⟨us, e, r'.st x⟩
  · rw [List.mem_singleton] at z
    cases z
    exact ⟨_, hv, AllV.st r x⟩
/-! ### loops -/
def wpI (X : Cx) (tg iter : Expr) : TI := fun σ H R => ∀ (pins : List (Addr × Obj)) (s : Shared), Inv X pins σ H s → wpAny (model X.prog X.w) X.A (eval iter X.env) (fun v s1 => wpAny (model X.prog X.w) X.A (pyIter v) (PIE X pins σ tg R) X.xe s1) X.xe s
theorem wpI_pi {tg iter : Expr} : PI X tg iter (wpI X tg iter) := ⟨fun pins s _ _ _ I h => h pins s I⟩
theorem le_I {tg iter : Expr} {t : TI} (h : PI X tg iter t) {σ : St} {H : Hp} {R : It → Hp → Prop} (q : t σ H R) : wpI X tg iter σ H R := fun pins s I => h.run pins s σ H R I q
/-- what an iterator gives, from a state on -/
structure IterOk (K : PySem.W.Frag) (J : It) (M0 : List Addr) (H0 : Hp) (Is : List AV) : Prop where
  go : ∀ i M H, i < Is.length → Ext M0 H0 M H → J.go i H
  stop : ∀ M H, Ext M0 H0 M H → J.stop Is.length H
  yld : ∀ i M H x H', i < Is.length → Ext M0 H0 M H → (∀ b ∈ M, ∃ o, H b = some o) → J.yld i H x H' → (H' = H ∨ ∃ T o, H T = none ∧ H' = upd H T o) ∧ ∀ A, Is[i]? = some A → A.p K M H' x
def WI (X : Cx) (tg iter : Expr) (ρ : Rho) (m : Mem) (Ki : List AV → Mem → Prop) : Prop :=
  ∀ fr σ H, Holds X.K fr ρ m σ H → ∀ R : It → Hp → Prop, (∀ Is m' J H', Ki Is m' → Ext (Ms fr m) H (Ms fr m') H' → Holds X.K fr ρ m' σ H' → IterOk X.K J (Ms fr m') H' Is → R J H') → wpI X tg iter σ H R
theorem MemV.ofYld {fr : Frm} {H H' : Hp} (o : MemV K fr m H) (h : H' = H ∨ ∃ T u, H T = none ∧ H' = upd H T u) : MemV K fr m H' ∧ Ext (Ms fr m) H (Ms fr m) H' := by
  rcases h with rfl | ⟨T, u, hT, rfl⟩
  · exact ⟨o, .refl _ _⟩
  · exact ⟨o.alloc hT, .alloc hT⟩
include a in
theorem ws_for (W : Nat → Rho → Mem → Prop) {tg iter : Expr} {body : List Stmt} (h : WI X tg iter ρ m fun Is m1 => W 0 ρ m1 ∧ (∀ i A ρ' m', Is[i]? = some A → W i ρ' m' → WG X tg A ρ' m' fun ρ2 m2 => WSs X body ρ2 m2 { E with nx := W (i + 1), ct := W (i + 1), bk := E.nx }) ∧ ∀ ρ' m', W Is.length ρ' m' → E.nx ρ' m')
    (hs : ∀ x, foldedSetIterable iter X.env x = pure x := by intro _; rfl) : WS X (.For tg iter body [] pos) ρ m E := by
  intro fr σ H o D g
  refine le_S (ps_for a.pso a.calm wpI_pi wpG_pg wpSs_pss hs) ?_
  refine h fr σ H o _ fun Is m1 J H1 ⟨w0, step, fin⟩ x1 o1 it => ?_
  refine ⟨fun i n σ' H' => n = Is.length - i ∧ i ≤ Is.length ∧ ∃ ρ' m', W i ρ' m' ∧ Ext (Ms fr m1) H1 (Ms fr m') H' ∧ Holds X.K fr ρ' m' σ' H', ⟨_, rfl, Nat.zero_le _, ρ, m1, w0, .refl _ _, o1⟩, ?_⟩
  rintro i n σ' H' ⟨rfl, hi, ρ', m', hw, x, o'⟩
  by_cases hlt : i < Is.length
  · refine .inr ⟨it.go i _ _ hlt x, fun σ2 H2 => i + 1 ≤ Is.length ∧ ∃ ρ2 m2, W (i + 1) ρ2 m2 ∧ Ext (Ms fr m1) H1 (Ms fr m2) H2 ∧ Holds X.K fr ρ2 m2 σ2 H2, fun σ2 H2 hN => ⟨Is.length - (i + 1), by omega, rfl, hN.1, hN.2⟩, fun v H2 hy => ?_⟩
    have hA : Is[i]? = some Is[i] := by simp [hlt]
    obtain ⟨hh, hv⟩ := it.yld i _ _ v H2 hlt x (fun b hb => o'.mem.has hb) hy
    obtain ⟨mv2, x2⟩ := o'.mem.ofYld hh
    have o2 : Holds X.K fr ρ' m' σ' H2 := ⟨o'.env.st x2, mv2⟩
    refine step i Is[i] ρ' m' hA hw fr σ' H2 v o2 (hv _ hA) _ fun ρ3 m3 σ3 H3 q3 x3 o3 => ?_
    refine q3 fr σ3 H3 o3 _ ⟨fun ρ4 m4 σ4 H4 q4 x4 o4 => ⟨hlt, ρ4, m4, q4, ((x.trans x2).trans x3).trans x4, o4⟩, fun A m4 v4 H4 q4 x4 o4 r4 => g.rt A m4 v4 H4 q4 ((((x1.trans x).trans x2).trans x3).trans x4) o4 r4,
      fun ρ4 m4 σ4 H4 q4 x4 o4 => g.nx ρ4 m4 σ4 H4 q4 ((((x1.trans x).trans x2).trans x3).trans x4) o4, fun ρ4 m4 σ4 H4 q4 x4 o4 => ⟨hlt, ρ4, m4, q4, ((x.trans x2).trans x3).trans x4, o4⟩⟩
  · have ei : i = Is.length := by omega
    subst ei
    exact .inl ⟨it.stop _ _ x, g.nx ρ' m' σ' H' (fin ρ' m' hw) (x1.trans x) o'⟩
include a in
theorem ws_while (W : Nat → Rho → Mem → Prop) {c : Expr} {body : List Stmt} (n0 : Nat) (h0 : W n0 ρ m) (step : ∀ n ρ' m', W n ρ' m' → WT X c ρ' m' fun b m1 => Br b (WSs X body ρ' m1 { E with nx := fun ρ2 m2 => ∃ n', n' < n ∧ W n' ρ2 m2, ct := fun ρ2 m2 => ∃ n', n' < n ∧ W n' ρ2 m2, bk := E.nx }) (E.nx ρ' m1)) : WS X (.While c body [] pos) ρ m E := by
  intro fr σ H o D g
  refine le_S (ps_while a.pso wpT_pt wpSs_pss) ?_
  refine ⟨fun n σ' H' => ∃ ρ' m', W n ρ' m' ∧ Ext (Ms fr m) H (Ms fr m') H' ∧ Holds X.K fr ρ' m' σ' H', ⟨n0, ρ, m, h0, .refl _ _, o⟩, ?_⟩
  rintro n σ' H' ⟨ρ', m', hw, x, o'⟩
  refine step n ρ' m' hw fr σ' H' o' _ fun b m1 H1 q x1 o1 => ?_
  cases b with
  | true =>
    refine ⟨fun σ2 H2 => ∃ n', n' < n ∧ ∃ ρ2 m2, W n' ρ2 m2 ∧ Ext (Ms fr m) H (Ms fr m2) H2 ∧ Holds X.K fr ρ2 m2 σ2 H2, fun σ2 H2 hN => hN, ?_⟩
    refine q fr σ' H1 o1 _ ⟨fun ρ4 m4 σ4 H4 ⟨n', hn, q4⟩ x4 o4 => ⟨n', hn, ρ4, m4, q4, (x.trans x1).trans x4, o4⟩, fun A m4 v4 H4 q4 x4 o4 r4 => g.rt A m4 v4 H4 q4 ((x.trans x1).trans x4) o4 r4,
      fun ρ4 m4 σ4 H4 q4 x4 o4 => g.nx ρ4 m4 σ4 H4 q4 ((x.trans x1).trans x4) o4, fun ρ4 m4 σ4 H4 ⟨n', hn, q4⟩ x4 o4 => ⟨n', hn, ρ4, m4, q4, (x.trans x1).trans x4, o4⟩⟩
  | false => exact g.nx ρ' m1 σ' H1 q (x.trans x1) o1
end
end AL
namespace AL
open PySem PySem.Spec L2
open PyProof.Rows hiding St
section
variable {P : Program} {w : World} {K : PySem.W.Frag} {mg : Str → Option Value} {base : Heap} {N : List Str} {sc : Scope} {df : Bool} {k : Nat} {X : Cx}
variable {ρ : Rho} {m : Mem} {Kt : KA} {pos : Pos} {e f : Expr} {E : EndsA} {Kl : KL} {es : List Expr}
/-! ### what reads as a list, as a tuple -/
def IsLs (m : Mem) (A : AV) (As : List AV) : Prop := ∀ (K : PySem.W.Frag) (fr : Frm) (H : Hp) (v : V), MemV K fr m H → A.p K (Ms fr m) H v → ∃ a vs, v = .ref a ∧ H a = some (.lst vs) ∧ AllV K (Ms fr m) H As vs
theorem isLs_lst {As : List AV} : IsLs m (lst As) As := fun K fr H v _ ⟨a, vs, e, h, r⟩ => ⟨a, vs, e, h.1, r⟩
theorem isLs_mut {q : Addr} {As : List AV} (h : (q, .l As) ∈ m) : IsLs m (val (.ref q)) As := fun K fr H v o e => by
  obtain ⟨u, hv, r⟩ := o.at_ q _ h
  obtain ⟨vs, rfl, r⟩ := r.lst
  exact ⟨q, vs, e, hv, r⟩
theorem tup_sq {As : List AV} {M : List Addr} {H : Hp} {v : V} (h : (tup As).p K M H v) : ∃ a vs, v = .ref a ∧ SqT K H a vs ∧ AllV K M H As vs := by
  obtain ⟨a, vs, e, t, r⟩ := h
  exact ⟨a, vs, e, t.sq, r⟩
/-! ### iterators -/
theorem Ext.sqL {a : Addr} {xs : List V} {M M' : List Addr} {H H' : Hp} (h : ListAt M H a xs) (x : Ext M H M' H') : SqL K H' a xs := (h.st x).sq
variable {Ki : List AV → Mem → Prop} {tg : Expr}
theorem yld_same {As : List AV} {vs : List V} {M0 M : List Addr} {H0 H : Hp} {i : Nat} {x : V} (r : AllV K M0 H0 As vs) (xt : Ext M0 H0 M H) (hx : vs[i]? = some x) : ∀ A, As[i]? = some A → A.p K M H x := fun A hA => by
  obtain ⟨v, h1, h2⟩ := r.get hA
  rw [hx] at h1; cases h1
  exact A.st h2 xt
theorem wi_list (h : WE X e ρ m fun A m1 => ∃ As, A = lst As ∧ Ki As m1) : WI X tg e ρ m Ki :=
  fun fr σ H o R g => le_I (pi_list wpE_pe) (h.to o fun A m' v H' ⟨As, ea, q⟩ x o' r => by
    subst ea
    obtain ⟨a, vs, rfl, ht, rr⟩ := r
    refine ⟨a, rfl, ⟨vs, ht.sq⟩, g As m' _ H' q x o' ⟨fun i M H2 hi xt => ?_, fun M H2 xt => ?_, fun i M H2 y H3 hi xt hM hy => ?_⟩⟩
    · rw [rr.length] at hi
      exact ⟨vs, vs[i], Ext.sqL ht xt, by simp [hi]⟩
    · exact ⟨vs, Ext.sqL ht xt, by rw [rr.length]; exact Nat.le_refl _⟩
    · obtain ⟨e1, e2⟩ := hy
      subst e1
      exact ⟨.inl rfl, yld_same rr xt (e2 vs (Ext.sqL ht xt))⟩)
theorem wi_tup (h : WE X e ρ m fun A m1 => ∃ As, A = tup As ∧ Ki As m1) : WI X tg e ρ m Ki :=
  fun fr σ H o R g => le_I (pi_tup wpE_pe) (h.to o fun A m' v H' ⟨As, ea, q⟩ x o' r => by
    subst ea
    obtain ⟨a, vs, rfl, ht, rr⟩ := r
    refine ⟨a, rfl, ⟨vs, ht.sq⟩, g As m' _ H' q x o' ⟨fun i M H2 hi xt => ?_, fun M H2 xt => ?_, fun i M H2 y H3 hi xt hM hy => ?_⟩⟩
    · rw [rr.length] at hi
      exact ⟨vs, vs[i], (ht.st xt).sq, by simp [hi]⟩
    · exact ⟨vs, (ht.st xt).sq, by rw [rr.length]; exact Nat.le_refl _⟩
    · obtain ⟨e1, e2⟩ := hy
      subst e1
      exact ⟨.inl rfl, yld_same rr xt (e2 vs (ht.st xt).sq)⟩)
def rangeA (lo : Int) (n : Nat) : List AV := (List.range n).map fun (i : Nat) => int (lo + (i : Int))
theorem iter_range {lo : Int} {n : Nat} {M0 : List Addr} {H0 : Hp} : IterOk K (Itr lo n) M0 H0 (rangeA lo n) := by
  have hl : (rangeA lo n).length = n := by simp [rangeA]
  refine ⟨fun i M H hi _ => by rw [hl] at hi; exact hi, fun M H _ => by rw [hl]; exact Nat.le_refl _, fun i M H x H' hi _ _ hy => ?_⟩
  obtain ⟨e1, e2⟩ := hy
  refine ⟨.inl e1, fun A hA => ?_⟩
  rw [hl] at hi
  simp [rangeA, hi] at hA
  subst hA
  exact e2
variable (a : At P w K mg base N sc df k X)
include a in
theorem wi_range1 {p : Pos} {c : Expr} (hg : sc.names.lookup ("range" : Str) = some .globalImplicit) (hm : mg ("range" : Str) = none) (h : WE X c ρ m fun A m1 => ∃ j : Int, A = int j ∧ (-(2 ^ 62) ≤ j ∧ j < 2 ^ 62) ∧ Ki (rangeA 0 j.toNat) m1) (hs : starEach [c] X.env = [(false, eval c X.env)] := by rfl) : WI X tg (.Call (.Name "range" p) [c] [] pos) ρ m Ki := by
  intro fr σ H o R g
  refine le_I (pi_range1 (gl_of a hg) (by rw [a.mt]; exact hm) (pa_cons wpE_pe pa_nil (by rw [hs]; rfl)) hs) ?_
  refine h.to o fun A m' v H' ⟨j, ea, b, q⟩ x o' r => ?_
  subst ea
  exact ⟨j, by rw [show v = V.int j from r], b.1, b.2, g _ m' _ H' q x o' iter_range⟩
include a in
theorem wi_range2 {p : Pos} {c d : Expr} (hg : sc.names.lookup ("range" : Str) = some .globalImplicit) (hm : mg ("range" : Str) = none) (h : WE X c ρ m fun A m1 => WE X d ρ m1 fun B m2 => ∃ i j : Int, A = int i ∧ B = int j ∧ (-(2 ^ 62) ≤ i ∧ i < 2 ^ 62 ∧ -(2 ^ 62) ≤ j ∧ j < 2 ^ 62) ∧ Ki (rangeA i (j - i).toNat) m2)
    (hs : starEach [c, d] X.env = [(false, eval c X.env), (false, eval d X.env)] := by rfl) (hs2 : starEach [d] X.env = [(false, eval d X.env)] := by rfl) : WI X tg (.Call (.Name "range" p) [c, d] [] pos) ρ m Ki := by
  intro fr σ H o R g
  refine le_I (pi_range2 (gl_of a hg) (by rw [a.mt]; exact hm) (pa_cons wpE_pe (pa_cons wpE_pe pa_nil (by rw [hs2]; rfl)) (by rw [hs, hs2])) hs hs2) ?_
  refine h.to o fun A m1 v H1 h1 x1 o1 r1 => h1.to o1 fun B m2 u H2 ⟨i, j, ea, eb, b, q⟩ x2 o2 r2 => ?_
  subst ea eb
  exact ⟨i, j, by rw [show v = V.int i from r1, show u = V.int j from r2], b, g _ m2 _ H2 q (x1.trans x2) o2 iter_range⟩
def pairA (As Bs : List AV) : List AV := List.zipWith (fun a b => tup [a, b]) As Bs
theorem pairA_len (As Bs : List AV) : (pairA As Bs).length = min As.length Bs.length := by simp [pairA]
theorem pair_yld {As Bs : List AV} {xs ys : List V} {M0 M : List Addr} {H0 H : Hp} {i : Nat} {T : Addr} {x y : V} (ra : AllV K M0 H0 As xs) (rb : AllV K M0 H0 Bs ys) (xt : Ext M0 H0 M H) (hT : H T = none) (hM : ∀ b ∈ M, ∃ o, H b = some o) (h1 : xs[i]? = some x) (h2 : ys[i]? = some y) :
    ∀ A, (pairA As Bs)[i]? = some A → A.p K M (upd H T (.tup [x, y])) (.ref T) := by
  intro A hA
  obtain ⟨Ax, hx, px⟩ := ra.getV h1
  obtain ⟨By, hy, py⟩ := rb.getV h2
  have e : (pairA As Bs)[i]? = some (tup [Ax, By]) := by simp [pairA, List.getElem?_zipWith, hx, hy]
  rw [e] at hA; cases hA
  have nT : T ∉ M := fun z => by
    obtain ⟨o, q⟩ := hM T z
    rw [hT] at q; cases q
  have xt2 : Ext M0 H0 M (upd H T (.tup [x, y])) := xt.trans (.alloc hT)
  exact ⟨T, [x, y], rfl, .inl ⟨.inl upd_same, nT⟩, .cons (Ax.st px xt2) (.cons (By.st py xt2) .nil)⟩
include a in
theorem wi_zip {p tpos : Pos} {c d : Expr} {elts : List Expr} {kk} (hg : sc.names.lookup ("zip" : Str) = some .globalImplicit) (hm : mg ("zip" : Str) = none) (h : WE X c ρ m fun A m1 => WE X d ρ m1 fun B m2 => ∃ As Bs, ((A = lst As ∧ B = lst Bs) ∨ (A = tup As ∧ B = tup Bs)) ∧ Ki (pairA As Bs) m2)
    (hs : starEach [c, d] X.env = [(false, eval c X.env), (false, eval d X.env)] := by rfl) (hs2 : starEach [d] X.env = [(false, eval d X.env)] := by rfl) (hpl : (backTo pos (starEach [d] X.env)).any (·.1) = false := by rfl) : WI X (.Tuple elts kk tpos) (.Call (.Name "zip" p) [c, d] [] pos) ρ m Ki := by
  intro fr σ H o R g
  refine le_I (RZ.pi_zipA (gl_of a hg) (by rw [a.mt]; exact hm) (pa_cons wpE_pe (pa_cons wpE_pe pa_nil (by rw [hs2]; rfl)) (by rw [hs, hs2])) (by rw [hs, hs2]) hpl) ?_
  refine h.to o fun A m1 v H1 h1 x1 o1 r1 => h1.to o1 fun B m2 u H2 ⟨As, Bs, hh, q⟩ x2 o2 r2 => ?_
  have r1' := A.st r1 x2
  rcases hh with ⟨ea, eb⟩ | ⟨ea, eb⟩
  · subst ea eb
    obtain ⟨p1, xs, rfl, t1, ra⟩ := r1'
    obtain ⟨p2, ys, rfl, t2, rb⟩ := r2
    refine ⟨p1, p2, xs, ys, rfl, .inl ⟨t1.sq, t2.sq, g _ m2 _ H2 q (x1.trans x2) o2 ?_⟩⟩
    have w := walk_zip (K := X.K) (a := p1) (b := p2) (xs := xs) (ys := ys) rfl
    have hl : (pairA As Bs).length = min xs.length ys.length := by rw [pairA_len, ra.length, rb.length]
    refine ⟨fun i M H3 hi xt => w.goes i H3 (by rw [hl] at hi; exact hi) ⟨(t1.st xt).sq, (t2.st xt).sq⟩, fun M H3 xt => ?_, fun i M H3 y H4 hi xt hM hy => ?_⟩
    · rw [hl]; exact w.stops H3 ⟨(t1.st xt).sq, (t2.st xt).sq⟩
    · obtain ⟨T, x, z, e1, e2, e3, e4, e5⟩ := w.yields i H3 y H4 (by rw [hl] at hi; exact hi) ⟨(t1.st xt).sq, (t2.st xt).sq⟩ hy
      subst e1 e3
      exact ⟨.inr ⟨T, _, e2, rfl⟩, pair_yld ra rb xt e2 hM e4 e5⟩
  · subst ea eb
    obtain ⟨p1, xs, rfl, t1, ra⟩ := r1'
    obtain ⟨p2, ys, rfl, t2, rb⟩ := r2
    refine ⟨p1, p2, xs, ys, rfl, .inr ⟨t1.sq, t2.sq, g _ m2 _ H2 q (x1.trans x2) o2 ?_⟩⟩
    have hl : (pairA As Bs).length = min xs.length ys.length := by rw [pairA_len, ra.length, rb.length]
    refine ⟨fun i M H3 hi xt => ?_, fun M H3 xt => ?_, fun i M H3 y H4 hi xt hM hy => ?_⟩
    · rw [hl] at hi
      exact ⟨xs, ys, xs[i]'(by omega), ys[i]'(by omega), (t1.st xt).sq, (t2.st xt).sq, by simp, by simp⟩
    · rw [hl]; exact ⟨xs, ys, (t1.st xt).sq, (t2.st xt).sq, by omega⟩
    · obtain ⟨T, x, z, e1, e2, e3, e4, e5⟩ := hy
      subst e1 e3
      exact ⟨.inr ⟨T, _, e2, rfl⟩, pair_yld ra rb xt e2 hM (e4 _ (t1.st xt).sq) (e5 _ (t2.st xt).sq)⟩
def enumA (As : List AV) : List AV := pairA ((List.range As.length).map fun (i : Nat) => int (i : Int)) As
include a in
theorem wi_enum {p tpos : Pos} {c : Expr} {elts : List Expr} {kk} (hg : sc.names.lookup ("enumerate" : Str) = some .globalImplicit) (hm : mg ("enumerate" : Str) = none) (h : WE X c ρ m fun A m1 => ∃ As, A = lst As ∧ Ki (enumA As) m1)
    (hs : starEach [c] X.env = [(false, eval c X.env)] := by rfl) : WI X (.Tuple elts kk tpos) (.Call (.Name "enumerate" p) [c] [] pos) ρ m Ki := by
  intro fr σ H o R g
  refine le_I (pi_enum (gl_of a hg) (by rw [a.mt]; exact hm) (pa_cons wpE_pe pa_nil (by rw [hs]; rfl)) hs) ?_
  refine h.to o fun A m1 v H1 ⟨As, ea, q⟩ x1 o1 r1 => ?_
  subst ea
  obtain ⟨p1, xs, rfl, t1, ra⟩ := r1
  refine ⟨p1, xs, rfl, t1.sq, g _ m1 _ H1 q x1 o1 ?_⟩
  have w := walk_enum (K := X.K) (a := p1) (xs := xs)
  have hl : (enumA As).length = xs.length := by unfold enumA; rw [pairA_len, List.length_map, List.length_range, ra.length]; omega
  refine ⟨fun i M H3 hi xt => w.goes i H3 (by rw [hl] at hi; exact hi) (t1.st xt).sq, fun M H3 xt => ?_, fun i M H3 y H4 hi xt hM hy => ?_⟩
  · rw [hl]; exact w.stops H3 (t1.st xt).sq
  · rw [hl] at hi
    obtain ⟨T, x, z, e1, e2, e3, e4, e5⟩ := w.yields i H3 y H4 hi (t1.st xt).sq hy
    subst e1 e3
    have ri : AllV X.K (Ms fr m1) H1 ((List.range As.length).map fun (i : Nat) => int (i : Int)) ((List.range As.length).map fun (i : Nat) => V.int (i : Int)) := by
      generalize List.range As.length = l
      induction l with
      | nil => exact .nil
      | cons z l ih => exact .cons rfl ih
    have e4' : V.int (i : Nat) = x := Option.some.inj e4
    exact ⟨.inr ⟨T, _, e2, rfl⟩, pair_yld ri ra xt e2 hM (by rw [← e4', ra.length]; simp [hi]) e5⟩
/-! ### comprehensions -/
include a in
theorem blk_at {s : Shared} {H : Hp} {scope : Scope} {cl : List (Str × Addr)} {C : Addr} {fp : List Addr} : At P w K mg base N (relS scope sc) false k (X.blk s H scope (compEnvC scope cl C X.env) fp) := by
  have hsc : (compEnvC scope cl C X.env).scope = relS scope X.env.scope := rfl
  exact ⟨a.prog, a.wd, a.kt, a.mt, a.bas, a.nm, by show (compEnvC scope cl C X.env).scope = _; rw [hsc, a.sce], a.calm, a.room, a.nd, (fun z => nomatch z), PassesOwn.never⟩
def BlkOf (X : Cx) (scope : Scope) (X' : Cx) : Prop := ∃ s H cl C fp, X' = X.blk s H scope (compEnvC scope cl C X.env) fp
include a in
theorem BlkOf.at_ {scope : Scope} {X' : Cx} (h : BlkOf X scope X') : At P w K mg base N (relS scope sc) false k X' := by
  obtain ⟨s, H, cl, C, fp, rfl⟩ := h
  exact blk_at a
theorem BlkOf.kt {scope : Scope} {X' : Cx} (h : BlkOf X scope X') : X'.K = X.K := by
  obtain ⟨s, H, cl, C, fp, rfl⟩ := h
  rfl
/-- one comprehension's word: W by the turn, what is made, the memory -/
def LcW (X : Cx) (scope : Scope) (elt : Expr) (tgt : Nat → AV → Rho → Rho) (ρ0 : Rho) (Is : List AV) (m1 : Mem) (Kl : KL) : Prop :=
  Is.length ≤ 1000 ∧ ∃ W : Nat → List AV → Mem → Prop, W 0 [] m1 ∧ (∀ i acc m' A, Is[i]? = some A → W i acc m' → ∀ X', BlkOf X scope X' → WE X' elt (tgt i A ρ0) m' fun B m3 => W (i + 1) (acc ++ [B]) m3) ∧ ∀ acc m', W Is.length acc m' → Kl acc m'
def teBlk (X : Cx) (scope : Scope) (elt : Expr) : TE := fun σ H Q => ∀ X', BlkOf X scope X' → wpE X' elt σ H Q
theorem teBlk_pe {scope : Scope} {elt : Expr} (s : Shared) (H : Hp) (C : Addr) (cl : List (Str × Addr)) (fp : List Addr) : PE (X.blk s H scope (compEnvC scope cl C X.env) fp) elt (teBlk X scope elt) :=
  ⟨fun pins s' σ H' Q I h => h _ ⟨s, H, cl, C, fp, rfl⟩ pins s' I⟩
/-- the reading, for a target that stores Is[i] -/
theorem lc_read {scope : Scope} {elt : Expr} {tgt : Nat → AV → Rho → Rho} {g : TG} {vs : List Nat} {fr : Frm} {σ : St} {J : It} {m1 : Mem} {H1 : Hp} {Is : List AV} {Q : VK} {D : Addr}
    (hg : ∀ (i : Nat) (A : AV) (x : V) (M : Mem) (frx : Frm) (H2 : Hp) (R : St → Hp → Prop), Is[i]? = some A → A.p X.K (Ms frx M) H2 x → EnvV X.K (Ms frx M) H2 (wipeR ρ vs) (wipe σ vs) → (∀ σ2, wipe σ2 vs = wipe σ vs → EnvV X.K (Ms frx M) H2 (tgt i A (wipeR ρ vs)) σ2 → R σ2 H2) → g x (wipe σ vs) H2 R)
    (o1 : Holds X.K fr ρ m1 σ H1) (it : IterOk X.K J (Ms fr m1) H1 Is) (hD : H1 D = none) (h : LcW X scope elt tgt (wipeR ρ vs) Is m1 Kl)
    (fin : ∀ As m' xs H', Kl As m' → Ext (Ms fr m1) H1 (Ms ((D, .lst xs) :: fr) m') H' → Holds X.K ((D, .lst xs) :: fr) ρ m' σ H' → AllV X.K (Ms ((D, .lst xs) :: fr) m') H' As xs → Q (.ref D) H') :
    ∃ W : Nat → Nat → Hp → Prop, (∃ n, W 0 n (upd H1 D (.lst []))) ∧ ∀ i n H, W i n H →
      (J.stop i H ∧ Q (.ref D) H) ∨ (J.go i H ∧ ∃ Nx : Hp → Prop, (∀ H', Nx H' → ∃ n', n' < n ∧ W (i + 1) n' H') ∧ ∀ x H', J.yld i H x H' → g x (wipe σ vs) H' fun σ2 H2 => wipe σ2 vs = wipe σ vs ∧ tYes σ2 H2 fun b H3 =>
        if b = true then teBlk X scope elt σ2 H3 fun y H4 => ∃ acc, H4 D = some (.lst acc) ∧ acc.length < sizeLine ∧ Nx (upd H4 D (.lst (acc ++ [y]))) else Nx H3) := by
  obtain ⟨hlen, W, w0, step, last⟩ := h
  let S : Nat → Hp → Prop := fun i H => i ≤ Is.length ∧ ∃ acc m' xs, W i acc m' ∧ Ext (Ms fr m1) H1 (Ms ((D, .lst xs) :: fr) m') H ∧ MemV X.K ((D, .lst xs) :: fr) m' H ∧ EnvV X.K (Ms ((D, .lst xs) :: fr) m') H ρ σ ∧ AllV X.K (Ms ((D, .lst xs) :: fr) m') H acc xs ∧ xs.length = i
  refine ⟨fun i n H => n = Is.length - i ∧ S i H, ⟨_, rfl, Nat.zero_le _, [], m1, [], w0, .push hD, o1.mem.push hD, o1.env.st (.push hD), .nil, rfl⟩, ?_⟩
  rintro i n H ⟨rfl, hi, acc, m', xs, hw, x, mv, ev, rv, hxl⟩
  by_cases hlt : i < Is.length
  · refine .inr ⟨it.go i _ _ hlt x, S (i + 1), fun H' hN => ⟨Is.length - (i + 1), by omega, rfl, hN⟩, fun y H2 hy => ?_⟩
    have hA : Is[i]? = some Is[i] := by simp [hlt]
    obtain ⟨hh, hv⟩ := it.yld i _ _ y H2 hlt x (fun b hb => mv.has hb) hy
    obtain ⟨mv2, x2⟩ := mv.ofYld hh
    refine hg i Is[i] y m' _ H2 _ hA (hv _ hA) ((ev.st x2).wipe vs) fun σ2 hs e2 => ⟨hs, ?_⟩
    simp only [tYes, if_true]
    intro X' hX'
    have hs' := step i acc m' Is[i] hA hw X' hX'
    refine hs' _ σ2 H2 ⟨by rw [hX'.kt]; exact e2, by rw [hX'.kt]; exact mv2⟩ _ fun B m3 yv H4 hW x4 o4 r4 => ?_
    rw [hX'.kt] at o4 r4
    have hD4 : H4 D = some (.lst xs) := o4.mem.frm _ _ List.mem_cons_self
    refine ⟨xs, hD4, Nat.le_of_lt_succ (Nat.lt_succ_of_lt (small1000 (by omega))), ?_⟩
    have x5 : Ext (Ms ((D, .lst xs) :: fr) m') H (Ms ((D, .lst (xs ++ [yv])) :: fr) m3) (upd H4 D (.lst (xs ++ [yv]))) := (x2.trans x4).trans .re
    exact ⟨hlt, acc ++ [B], m3, xs ++ [yv], hW, x.trans x5, o4.mem.re, ev.st x5, (rv.st x5).append (.cons (B.st r4 .re) .nil), by rw [List.length_append, hxl]; rfl⟩
  · have ei : i = Is.length := by omega
    subst ei
    refine .inl ⟨it.stop _ _ x, ?_⟩
    exact fin acc m' xs H (last acc m' hw) x ⟨ev, mv⟩ rv
theorem wipe1 {σ : St} {i : Nat} {v : Option V} : wipe ((wipe σ [i]).set i v) [i] = wipe σ [i] := by simp [wipe]
include a in
theorem wn_lc1 (j : Nat) {nm : Str} {tpos : Pos} {elt iter : Expr} {scope : Scope} (hok : blkC N sc scope [(nm, j)] = true) (hj : N[j]? = some nm) (hl : (relS scope sc).names.lookup nm = some .local)
    (h : WI X (.Name nm tpos) iter ρ m fun Is m1 => LcW X scope elt (fun _ A r => r.set j (some A)) (wipeR ρ [j]) Is m1 Kl) (hs : ∀ x, foldedSetIterable iter X.env x = pure x := by intro _; rfl) : WN X (.ListComp elt [⟨.Name nm tpos, iter, [], 0⟩] scope pos) ρ m Kl := by
  intro fr σ H o Q g
  refine le_E (pe_lc (own := [(nm, j)]) (g := gName j) (tt := tYes) a.calm (by rw [a.nm]; exact a.nd) wpI_pi (blkOk_by (by rw [a.nm, a.sce]; exact hok)) (fun s H C cl fp => pgn (blk_at a) j hj (.inl hl)) (fun _ _ _ _ _ => pts_nil) teBlk_pe hs) ?_
  refine h fr σ H o _ fun Is m1 J H1 hW x1 o1 it D hD => ?_
  refine lc_read (fun i A y M frx H2 R _ hv ev k => k _ wipe1 (ev.set hv j)) o1 it hD hW fun As m' xs H' q x2 o2 rv => ?_
  exact g As m' D xs H' q (x1.trans x2) o2 rv
include a in
/-- name = [.. for ..] on one line -/
theorem ws_lc1 (i j : Nat) {x nm : Str} {tpos py spos : Pos} {elt iter : Expr} {scope : Scope} (hk : sc.kind = .function) (hx : N[i]? = some x) (hxl : sc.names.lookup x = some .local) (hln : (py.line == pos.line) = true) (hany : (scope.names.any fun (n, k) => n == x && (k == .local || k == .cell)) = false)
    (hok : blkC N sc scope [(nm, j)] = true) (hj : N[j]? = some nm) (hl : (relS scope sc).names.lookup nm = some .local)
    (h : WI X (.Name nm tpos) iter ρ m fun Is m1 => LcW X scope elt (fun _ A r => r.set j (some A)) (wipeR ρ [j]) Is m1 fun As m2 => E.nx (ρ.set i (some (lst As))) m2) (hs : ∀ x, foldedSetIterable iter X.env x = pure x := by intro _; rfl) :
    WS X (.Assign [.Name x py] (.ListComp elt [⟨.Name nm tpos, iter, [], 0⟩] scope pos) spos) ρ m E := by
  intro fr σ H o D0 g
  refine le_S (ps_setLc (own := [(nm, j)]) (g := gName j) (tt := tYes) a.calm (by rw [a.nm]; exact a.nd) (by rw [a.nm]; exact hx) (by rw [a.sce]; exact hxl) (sw_true ?_ (by rw [a.sce]; exact hxl) hln hany) wpI_pi (blkOk_by (by rw [a.nm, a.sce]; exact hok)) (fun s H C cl fp => pgn (blk_at a) j hj (.inl hl)) (fun _ _ _ _ _ => pts_nil) teBlk_pe hs) ?_
  · rw [a.sce]; exact hk
  refine h fr σ H o _ fun Is m1 J H1 hW x1 o1 it D hD => ?_
  refine lc_read (Q := fun x H1 => D0.nx (σ.set i (some x)) H1) (g := gName j) (vs := [j]) (fun i A y M frx H2 R _ hv ev k => k _ wipe1 (ev.set hv j)) o1 it hD hW fun As m' xs H' q x2 o2 rv => ?_
  obtain ⟨o3, r3⟩ := new_lst o2 rv
  exact g.nx _ m' _ H' q (x1.trans (x2.trans .pop)) ⟨o3.env.set r3 i, o3.mem⟩
theorem wipe2 {σ : St} {i j : Nat} {u v : Option V} (h : i ≠ j) : wipe (((wipe σ [i, j]).set i u).set j v) [i, j] = wipe σ [i, j] := by
  simp only [wipe]
  rw [List.set_set, List.set_comm u none h, List.set_set, List.set_comm none none h, List.set_set]
  rw [List.set_set]
include a in
theorem wn_lc2 (i j : Nat) {nm nm2 : Str} {tpos tp1 tp2 : Pos} {ctx} {elt iter : Expr} {scope : Scope} (hok : blkC N sc scope [(nm, i), (nm2, j)] = true) (hij : i ≠ j) (hi : N[i]? = some nm) (hj : N[j]? = some nm2) (hl : (relS scope sc).names.lookup nm = some .local) (hl2 : (relS scope sc).names.lookup nm2 = some .local)
    (h : WI X (.Tuple [.Name nm tp1, .Name nm2 tp2] ctx tpos) iter ρ m fun Is m1 => ∃ Bs Cs : List AV, Is = pairA Bs Cs ∧ Is.length ≤ 1000 ∧ ∃ W : Nat → List AV → Mem → Prop, W 0 [] m1 ∧
      (∀ n acc m' B C, Bs[n]? = some B → Cs[n]? = some C → W n acc m' → ∀ X', BlkOf X scope X' → WE X' elt (((wipeR ρ [i, j]).set i (some B)).set j (some C)) m' fun Z m3 => W (n + 1) (acc ++ [Z]) m3) ∧ ∀ acc m', W (min Bs.length Cs.length) acc m' → Kl acc m')
    (hs : ∀ x, foldedSetIterable iter X.env x = pure x := by intro _; rfl) : WN X (.ListComp elt [⟨.Tuple [.Name nm tp1, .Name nm2 tp2] ctx tpos, iter, [], 0⟩] scope pos) ρ m Kl := by
  intro fr σ H o Q g
  refine le_E (pe_lc (own := [(nm, i), (nm2, j)]) (g := gTup X.K 2 (gCons (gName i) (gCons (gName j) gNil))) (tt := tYes) a.calm (by rw [a.nm]; exact a.nd) wpI_pi (blkOk_by (by rw [a.nm, a.sce]; exact hok))
    (fun s H C cl fp => pg_tup (blk_at a).calm (pgs_cons (pgn (blk_at a) i hi (.inl hl)) (pgs_cons (pgn (blk_at a) j hj (.inl hl2)) pgs_nil))) (fun _ _ _ _ _ => pts_nil) teBlk_pe hs) ?_
  refine h fr σ H o _ fun Is m1 J H1 ⟨Bs, Cs, eI, hlen, W, w0, step, last⟩ x1 o1 it D hD => ?_
  subst eI
  have hW : LcW X scope elt (fun n A r => (r.set i (Bs[n]?)).set j (Cs[n]?)) (wipeR ρ [i, j]) (pairA Bs Cs) m1 Kl := by
    refine ⟨hlen, W, w0, fun n acc m' A hA hw X' hX => ?_, fun acc m' hw => last acc m' (by rw [pairA_len] at hw; exact hw)⟩
    have hn : n < (pairA Bs Cs).length := by
      by_cases q : n < (pairA Bs Cs).length
      · exact q
      · rw [List.getElem?_eq_none (by omega)] at hA; cases hA
    rw [pairA_len] at hn
    have h1 : Bs[n]? = some (Bs[n]'(by omega)) := by simp
    have h2 : Cs[n]? = some (Cs[n]'(by omega)) := by simp
    show WE X' elt (((wipeR ρ [i, j]).set i (Bs[n]?)).set j (Cs[n]?)) m' _
    rw [h1, h2]
    exact step n acc m' _ _ h1 h2 hw X' hX
  refine lc_read (fun n A y M frx H2 R hA hv ev k => ?_) o1 it hD hW fun As m' xs H' q x2 o2 rv => ?_
  · have hn : n < (pairA Bs Cs).length := by
      by_cases q : n < (pairA Bs Cs).length
      · exact q
      · rw [List.getElem?_eq_none (by omega)] at hA; cases hA
    rw [pairA_len] at hn
    have h1 : Bs[n]? = some (Bs[n]'(by omega)) := by simp
    have h2 : Cs[n]? = some (Cs[n]'(by omega)) := by simp
    have e : (pairA Bs Cs)[n]? = some (tup [Bs[n]'(by omega), Cs[n]'(by omega)]) := by simp [pairA, List.getElem?_zipWith, h1, h2]
    rw [e] at hA; cases hA
    obtain ⟨p, vs, rfl, ht, hr⟩ := hv
    cases hr with
    | cons r1 t1 =>
      cases t1 with
      | cons r2 t2 =>
        cases t2
        refine ⟨p, _, rfl, ht.sq, rfl, _, _, rfl, _, _, rfl, rfl, k _ (wipe2 hij) ?_⟩
        show EnvV X.K _ H2 (((wipeR ρ [i, j]).set i (Bs[n]?)).set j (Cs[n]?)) _
        rw [h1, h2]
        exact (ev.set r1 i).set r2 j
  · exact g As m' D xs H' q (x1.trans x2) o2 rv
end
end AL
namespace AL
open PySem PySem.Spec L2
open PyProof.Rows hiding St
theorem tuple_mul1 (l : Addr) (items : Array Value) (n : Nat) (dd : Option Addr) (sl : Array (Option Value)) (x : Int) (u : Tok) (c0 : (decide (x < -(2 ^ 63)) || decide (x ≥ 2 ^ 63)) = false) (c1 : (items.isEmpty || x == 1) = true) :
    Meets (Builtin.«tuple.__mul__» ⟨[.ref l, .int x u], []⟩) (fun _ R s => s.heap.get? l = some { cls := .type "tuple", dict := dd, data := .seq items n, slots := sl } ∧
      R (.ok (.ret (Value.ref l))) s) :=
  .of_wp fun prog w A R s h => by
    obtain ⟨hp, g, d, tk, os⟩ := s
    obtain ⟨hl, h⟩ := h
    have f1 := AutoSeq1.idx_int
    wp_walk using wpAny_loadPart' hl
    repeat (first
      | (refine wpAny_ite_false (decide_eq_false (by rw [c0]; exact Bool.false_ne_true)) ?_; wp_walk using wpAny_loadPart' hl)
      | (refine wpAny_ite_true (decide_eq_true (by rw [c1])) ?_; wp_walk using wpAny_loadPart' hl))
    exact ⟨_, rfl, h⟩
theorem tuple_mul0 (l : Addr) (items : Array Value) (n : Nat) (dd : Option Addr) (sl : Array (Option Value)) (x : Int) (u : Tok) (c0 : (decide (x < -(2 ^ 63)) || decide (x ≥ 2 ^ 63)) = false) (c1 : (items.isEmpty || x == 1) = false) (c2 : (decide (x ≤ 0) || items.isEmpty) = true) :
    Meets (Builtin.«tuple.__mul__» ⟨[.ref l, .int x u], []⟩) (fun _ R s => s.heap.get? l = some { cls := .type "tuple", dict := dd, data := .seq items n, slots := sl } ∧
      R (.ok (.ret (Value.ref s.heap.objs.size))) { s with heap := s.heap.push { cls := Value.type "tuple", data := Data.seq #[] }, toks := s.toks }) :=
  .of_wp fun prog w A R s h => by
    obtain ⟨hp, g, d, tk, os⟩ := s
    obtain ⟨hl, h⟩ := h
    have f1 := AutoSeq1.idx_int
    wp_walk using wpAny_loadPart' hl
    repeat (first
      | (refine wpAny_ite_false (decide_eq_false (by rw [c0]; exact Bool.false_ne_true)) ?_; wp_walk using wpAny_loadPart' hl)
      | (refine wpAny_ite_false (decide_eq_false (by rw [c1]; exact Bool.false_ne_true)) ?_; wp_walk using wpAny_loadPart' hl)
      | (refine wpAny_ite_true (decide_eq_true (by rw [c2])) ?_; wp_walk using wpAny_loadPart' hl)
      | (refine wpAny_ite_false (decide_eq_false (Nat.not_lt.mpr (Nat.zero_le _))) ?_; wp_walk using wpAny_loadPart' hl))
    exact ⟨_, rfl, h⟩
/-- tuple * int, any number of turns -/
def rRepA (K : PySem.W.Frag) : R2 := fun x y H Q => ∃ l k xs, x = .ref l ∧ y = .int k ∧ SqT K H l xs ∧ xs ≠ [] ∧ 0 ≤ k ∧ k ≤ 1000 ∧ xs.length ≤ 1000 ∧
  (k = 1 → Q (.ref l) H) ∧ (k ≠ 1 → ∀ p, H p = none → Q (.ref p) (upd H p (.tup (List.replicate k.toNat xs).flatten)))
theorem op_repA {X : Cx} : OpR X (binaryOp .Mult) (rRepA X.K) := by
  intro pins s σ H x y v u Q I rx ry h
  obtain ⟨l, k, xs, rfl, rfl, hT, hne, h1, h2, hz, q1, q2⟩ := h
  by_cases hk2 : 2 ≤ k
  · exact op_repT pins s σ H _ _ v u Q I rx ry ⟨l, k, xs, rfl, rfl, hT, hne, hk2, h2, hz, q2 (by omega)⟩
  cases rx
  obtain ⟨t, rfl⟩ := ry
  obtain ⟨its, r, ⟨⟨cls, dd, data, sl⟩, ho, hc, n, hd⟩, hs⟩ := I.tuple hT
  simp only at hc hd
  subst hc hd
  have hle : its.length = xs.length := r.length.symm
  have hi : its.toArray.isEmpty = false := by
    cases its with
    | nil =>
      cases xs with
      | nil => exact absurd rfl hne
      | cons a b => cases hle
    | cons a b => rfl
  have c0 : (decide (k < -(2 ^ 63)) || decide (k ≥ 2 ^ 63)) = false := by
    rw [decide_eq_false (by omega), decide_eq_false (by omega)] <;> rfl
  by_cases hk1 : k = 1
  · have c1 : (its.toArray.isEmpty || k == 1) = true := by rw [hk1]; simp
    refine wpAny_binaryOp_repeat_ref (T := "tuple") (U := "int") (by decide) ⟨_, ho, rfl⟩ (fun s' => typeIs_int s' k t) noFill_tuple_mul F.fills_int_mul F.slot_int_rmul repeat_tuple F.slot_int_index.lookup
      (call_meets F.slot_int_rmul (typeIs_int s k t) F.entry_int_rmul (F.args_int_rmul_2 _ _) (int_rmul_tuple k t l its.toArray n dd sl)
        ⟨ho, rfl, ⟨_, ho, rfl⟩, call_meets F.slot_tuple_mul ⟨_, ho, rfl⟩ F.entry_tuple_mul (F.args_tuple_mul_2 _ _) (tuple_mul1 l its.toArray n dd sl k t c0 c1) ⟨ho, ?_⟩⟩)
    exact ⟨.ref l, H, I, rfl, q1 hk1⟩
  · have hk0 : k = 0 := by omega
    have c1 : (its.toArray.isEmpty || k == 1) = false := by rw [hi, hk0] <;> rfl
    have c2 : (decide (k ≤ 0) || its.toArray.isEmpty) = true := by rw [decide_eq_true (by omega)] <;> rfl
    refine wpAny_binaryOp_repeat_ref (T := "tuple") (U := "int") (by decide) ⟨_, ho, rfl⟩ (fun s' => typeIs_int s' k t) noFill_tuple_mul F.fills_int_mul F.slot_int_rmul repeat_tuple F.slot_int_index.lookup
      (call_meets F.slot_int_rmul (typeIs_int s k t) F.entry_int_rmul (F.args_int_rmul_2 _ _) (int_rmul_tuple k t l its.toArray n dd sl)
        ⟨ho, rfl, ⟨_, ho, rfl⟩, call_meets F.slot_tuple_mul ⟨_, ho, rfl⟩ F.entry_tuple_mul (F.args_tuple_mul_2 _ _) (tuple_mul0 l its.toArray n dd sl k t c0 c1 c2) ⟨ho, ?_⟩⟩)
    have q := q2 hk1
    have e : (List.replicate k.toNat xs).flatten = [] := by rw [hk0]; rfl
    rw [e] at q
    refine ⟨.ref s.heap.objs.size, _, I.laid (t' := s.toks) (o := .tup []) (fun b ob q => Heap.get?_push_of_some _ q) (Nat.le_refl _) ?_, rfl, q _ (I.hok.fresh (Nat.le_refl _))⟩
    exact ⟨Nat.zero_le _, [], .nil, IsTup.new _ _⟩
end AL
namespace AL
open PySem PySem.Spec L2
open PyProof.Rows hiding St
section
variable {P : Program} {w : World} {K : PySem.W.Frag} {mg : Str → Option Value} {base : Heap} {N : List Str} {sc : Scope} {df : Bool} {k : Nat} {X : Cx}
variable {ρ : Rho} {m : Mem} {Kt : KA} {pos : Pos} {e f : Expr} {E : EndsA} {Kl : KL} {es : List Expr} {Kb : KT}
variable (a : At P w K mg base N sc df k X)
/-! ### what reads as a sequence: a list (also one that may change), a tuple, the script -/
def IsSq (m : Mem) (A : AV) (As : List AV) : Prop := ∀ (K : PySem.W.Frag) (fr : Frm) (H : Hp) (v : V), MemV K fr m H → A.p K (Ms fr m) H v → ∃ a vs, v = .ref a ∧ (SqL K H a vs ∨ SqT K H a vs) ∧ AllV K (Ms fr m) H As vs
theorem IsLs.sq {A : AV} {As : List AV} (h : IsLs m A As) : IsSq m A As := fun K fr H v o r => by
  obtain ⟨a, vs, e, hl, q⟩ := h K fr H v o r
  exact ⟨a, vs, e, .inl (.inl (.inl hl)), q⟩
theorem isSq_lst {As : List AV} : IsSq m (lst As) As := isLs_lst.sq
theorem isSq_tup {As : List AV} : IsSq m (tup As) As := fun K fr H v o ⟨a, vs, e, h, r⟩ => ⟨a, vs, e, .inr h.sq, r⟩
theorem isSq_scr {As : List AV} : IsSq m (scr As) As := fun K fr H v o ⟨a, vs, e, h, r⟩ => ⟨a, vs, e, .inl h.sq, r⟩
/-! ### arithmetic -/
theorem we_add (h : WE X e ρ m fun A m1 => WE X f ρ m1 fun B m2 => ∃ i j, A = int i ∧ B = int j ∧ Kt (int (i + j)) m2) : WE X (.BinOp e .Add f pos) ρ m Kt :=
  we_bin op_add abs_I0 (h.mono fun A m1 h => h.mono fun B m2 ⟨i, j, e1, e2, q⟩ => ⟨i, j, e1, e2, trivial, q⟩)
theorem we_sub (h : WE X e ρ m fun A m1 => WE X f ρ m1 fun B m2 => ∃ i j, A = int i ∧ B = int j ∧ Kt (int (i - j)) m2) : WE X (.BinOp e .Sub f pos) ρ m Kt :=
  we_bin op_sub abs_I0 (h.mono fun A m1 h => h.mono fun B m2 ⟨i, j, e1, e2, q⟩ => ⟨i, j, e1, e2, trivial, q⟩)
theorem we_mul (h : WE X e ρ m fun A m1 => WE X f ρ m1 fun B m2 => ∃ i j, A = int i ∧ B = int j ∧ CMulW i j ∧ Kt (int (i * j)) m2) : WE X (.BinOp e .Mult f pos) ρ m Kt :=
  we_bin op_mulW abs_I h
theorem we_mulS (h : WE X e ρ m fun A m1 => WE X f ρ m1 fun B m2 => ∃ i j, A = int i ∧ B = int j ∧ CMul i j ∧ Kt (int (i * j)) m2) : WE X (.BinOp e .Mult f pos) ρ m Kt :=
  we_bin op_mul abs_I h
theorem we_fdiv (h : WE X e ρ m fun A m1 => WE X f ρ m1 fun B m2 => ∃ i j, A = int i ∧ B = int j ∧ CDivW i j ∧ Kt (int (i / j)) m2) : WE X (.BinOp e .FloorDiv f pos) ρ m Kt :=
  we_bin op_fdivW abs_I h
theorem we_mod (h : WE X e ρ m fun A m1 => WE X f ρ m1 fun B m2 => ∃ i j, A = int i ∧ B = int j ∧ 0 < j ∧ Kt (int (i % j)) m2) : WE X (.BinOp e .Mod f pos) ρ m Kt :=
  we_bin op_mod abs_I h
theorem we_pow (h : WE X e ρ m fun A m1 => WE X f ρ m1 fun B m2 => ∃ i j, A = int i ∧ B = int j ∧ CPow i j ∧ Kt (int (i ^ j.toNat)) m2) : WE X (.BinOp e .Pow f pos) ρ m Kt :=
  we_bin op_pow abs_I h
/-- comparisons of ints -/
theorem we_icmp {op : CmpOp} {p : Int → Int → Bool} (ho : OpR X (compareOp op) (rI0 fun i j => .bl (p i j))) (hm : behindInMarks op f = false) (h : WE X e ρ m fun A m1 => WE X f ρ m1 fun B m2 => ∃ i j, A = int i ∧ B = int j ∧ Kt (bool (p i j)) m2) : WE X (.Compare e [op] [f] pos) ρ m Kt :=
  we_cmp ho abs_I0 hm (h.mono fun A m1 h => h.mono fun B m2 ⟨i, j, e1, e2, q⟩ => ⟨i, j, e1, e2, trivial, q⟩)
theorem wt_icmp {op : CmpOp} {p : Int → Int → Bool} (ho : OpR X (compareOp op) (rI0 fun i j => .bl (p i j))) (hm : behindInMarks op f = false) (h : WE X e ρ m fun A m1 => WE X f ρ m1 fun B m2 => ∃ i j, A = int i ∧ B = int j ∧ Kb (p i j) m2) : WT X (.Compare e [op] [f] pos) ρ m Kb :=
  wt_cmp ho abs_I0 hm (h.mono fun A m1 h => h.mono fun B m2 ⟨i, j, e1, e2, q⟩ => ⟨i, j, e1, e2, trivial, _, rfl, q⟩)
/-! ### tuples -/
theorem abs_catT : AbsOp K (rCatA K) fun A B m Kt => ∃ As Bs, A = tup As ∧ B = tup Bs ∧ As.length + Bs.length ≤ 1000 ∧ Kt (tup (As ++ Bs)) m := by
  rintro A B m Kt fr ρ σ H x y Q ⟨As, Bs, rfl, rfl, hl, q⟩ o ⟨p1, xs, rfl, t1, r1⟩ ⟨p2, ys, rfl, t2, r2⟩ g
  have l1 := r1.length
  have l2 := r2.length
  refine ⟨p1, p2, xs, ys, rfl, rfl, t1.sq, t2.sq, Nat.le_of_lt (small1000 (by omega)), fun z => ?_, fun _ z => ?_, fun _ _ s hs => ?_⟩
  · subst z
    cases r1
    exact g _ m _ H q (.refl _ _) o ⟨p2, ys, rfl, t2, r2⟩
  · subst z
    cases r2
    rw [List.append_nil] at q
    exact g _ m _ H q (.refl _ _) o ⟨p1, xs, rfl, t1, r1⟩
  · exact g _ m _ _ q (.alloc hs) (o.alloc hs) ⟨s, _, rfl, at_new o.mem hs, (r1.append r2).st (.alloc hs)⟩
theorem we_tcat (h : WE X e ρ m fun A m1 => WE X f ρ m1 fun B m2 => ∃ As Bs, A = tup As ∧ B = tup Bs ∧ As.length + Bs.length ≤ 1000 ∧ Kt (tup (As ++ Bs)) m2) : WE X (.BinOp e .Add f pos) ρ m Kt :=
  we_bin op_catA abs_catT h
theorem AllV.rep {M : List Addr} {H : Hp} {As : List AV} {xs : List V} (r : AllV K M H As xs) : ∀ n : Nat, AllV K M H (List.replicate n As).flatten (List.replicate n xs).flatten
  | 0 => .nil
  | n + 1 => by
    rw [List.replicate_succ, List.replicate_succ, List.flatten_cons, List.flatten_cons]
    exact r.append (AllV.rep r n)
theorem abs_repT : AbsOp K (rRepA K) fun A B m Kt => ∃ As k, A = tup As ∧ B = int k ∧ As ≠ [] ∧ 0 ≤ k ∧ k ≤ 1000 ∧ As.length ≤ 1000 ∧ Kt (tup (List.replicate k.toNat As).flatten) m := by
  rintro A B m Kt fr ρ σ H x y Q ⟨As, k, rfl, rfl, hne, h0, h1, hl, q⟩ o ⟨p1, xs, rfl, t1, r1⟩ r2 g
  have l1 := r1.length
  refine ⟨p1, k, xs, rfl, r2, t1.sq, fun z => ?_, h0, h1, by omega, fun z => ?_, fun _ s hs => ?_⟩
  · subst z; cases r1; exact hne rfl
  · subst z
    have e : (List.replicate (1 : Int).toNat As).flatten = As := by simp
    rw [e] at q
    exact g _ m _ H q (.refl _ _) o ⟨p1, xs, rfl, t1, r1⟩
  · exact g _ m _ _ q (.alloc hs) (o.alloc hs) ⟨s, _, rfl, at_new o.mem hs, (r1.rep _).st (.alloc hs)⟩
theorem we_trep (h : WE X e ρ m fun A m1 => WE X f ρ m1 fun B m2 => ∃ As k, A = tup As ∧ B = int k ∧ As ≠ [] ∧ 0 ≤ k ∧ k ≤ 1000 ∧ As.length ≤ 1000 ∧ Kt (tup (List.replicate k.toNat As).flatten) m2) : WE X (.BinOp e .Mult f pos) ρ m Kt :=
  we_bin op_repA abs_repT h
/-! ### places -/
theorem ixN_lt {n : Nat} {i : Int} {j : Nat} (h : ixN n i = some j) : j < n := (ixN_seq h).2.1
theorem AllV.atI {M : List Addr} {H : Hp} {As : List AV} {xs : List V} (r : AllV K M H As xs) {i : Int} {A : AV} (h : L2.atI As i = some A) : ∃ v, L2.atI xs i = some v ∧ A.p K M H v := by
  unfold L2.atI at h ⊢
  rw [← r.length]
  cases e : ixN As.length i with
  | none => rw [e] at h; cases h
  | some j =>
    rw [e] at h
    exact r.get h
theorem we_ix (h : WE X e ρ m fun A m1 => WE X f ρ m1 fun B m2 => ∃ As i C, IsSq m2 A As ∧ B = int i ∧ L2.atI As i = some C ∧ Kt C m2) (hs : PlainIx f := by exact fun _ _ => rfl) : WE X (.Subscript e f pos) ρ m Kt := by
  intro fr σ H o Q g
  refine le_E (pe_ix ix_seq wpE_pe wpE_pe hs) ?_
  refine h.to o fun A m1 v H1 h1 x1 o1 r1 => h1.to o1 fun B m2 u H2 ⟨As, i, C, hA, eb, hC, q⟩ x2 o2 r2 => ?_
  subst eb
  obtain ⟨p, xs, rfl, hsq, rr⟩ := hA _ _ _ _ o2.mem (A.st r1 x2)
  obtain ⟨c, hc, pc⟩ := rr.atI hC
  have fin : Q c H2 := g C m2 c H2 q (x1.trans x2) o2 pc
  rcases hsq with hl | ht
  · exact .inl ⟨p, xs, i, c, rfl, r2, hl, hc, fin⟩
  · exact .inr (.inl ⟨p, xs, i, c, rfl, r2, ht, hc, fin⟩)
/-- a slice's part -/
def WO (X : Cx) (e : Option Expr) (ρ : Rho) (m : Mem) (Ko : Option Int → Mem → Prop) : Prop :=
  match e with
  | none => Ko none m
  | some e => WE X e ρ m fun A m1 => ∃ i, A = int i ∧ Ko (some i) m1
def cutA (As : List AV) (lo hi : Option Int) : List AV := (As.drop (HT.sIx As.length 0 lo)).take (HT.sIx As.length As.length hi - HT.sIx As.length 0 lo)
theorem AllV.cut {M : List Addr} {H : Hp} {As : List AV} {xs : List V} (r : AllV K M H As xs) (lo hi : Option Int) : AllV K M H (cutA As lo hi) (cutV xs lo hi) := by
  unfold cutA cutV
  rw [r.length]
  exact (r.drop _).take _
theorem cutA_whole {As : List AV} {lo hi : Option Int} (h : HT.sIx As.length 0 lo = 0 ∧ HT.sIx As.length As.length hi = As.length) : cutA As lo hi = As := by
  unfold cutA
  rw [h.1, h.2]
  simp
def tO (X : Cx) (x : Option Expr) : St → Hp → (Option Int → Hp → Prop) → Prop := fun σ H Q => match x with
  | none => Q none H
  | some x => wpE X x σ H fun v H1 => ∃ i, v = .int i ∧ Q (some i) H1
theorem tO_po (x : Option Expr) : PO X x (tO X x) := by
  cases x with
  | none => exact po_none
  | some x => exact po_some wpE_pe
theorem WO.to {x : Option Expr} {Ko : Option Int → Mem → Prop} (hw : WO X x ρ m Ko) {fr : Frm} {σ : St} {H : Hp} (o : Holds X.K fr ρ m σ H) {Q : Option Int → Hp → Prop}
    (k : ∀ i m' H', Ko i m' → Ext (Ms fr m) H (Ms fr m') H' → Holds X.K fr ρ m' σ H' → Q i H') : tO X x σ H Q := by
  cases x with
  | none => exact k none m H hw (.refl _ _) o
  | some x =>
    exact WE.to hw o fun A m' v H' ⟨i, ea, q⟩ x o' r => by
      subst ea
      exact ⟨i, r, k _ _ _ q x o'⟩
theorem we_tsl {lo hi : Option Expr} {p2 : Pos} (h : WE X e ρ m fun A m1 => WO X lo ρ m1 fun l m2 => WO X hi ρ m2 fun u m3 => ∃ As, A = tup As ∧ Kt (tup (cutA As l u)) m3) : WE X (.Subscript e (.Slice lo hi none p2) pos) ρ m Kt := by
  intro fr σ H o Q g
  refine le_E (pe_slice sl_tupA wpE_pe (tO_po lo) (tO_po hi)) ?_
  refine h.to o fun A m1 v H1 h1 x1 o1 r1 => WO.to h1 o1 fun l m2 H2 h2 x2 o2 => WO.to h2 o2 fun u m3 H3 ⟨As, ea, q⟩ x3 o3 => ?_
  subst ea
  obtain ⟨p, xs, rfl, t, rr⟩ := (tup As).st r1 (x2.trans x3)
  refine ⟨p, xs, rfl, t.sq, fun hw => ?_, fun hw s hs => ?_⟩
  · rw [← rr.length] at hw
    rw [cutA_whole hw] at q
    exact g _ m3 _ H3 q ((x1.trans x2).trans x3) o3 ⟨p, xs, rfl, t, rr⟩
  · exact g _ m3 _ _ q (((x1.trans x2).trans x3).trans (.alloc hs)) (o3.alloc hs) ⟨s, _, rfl, at_new o3.mem hs, (rr.cut l u).st (.alloc hs)⟩
/-! ### fields -/
theorem we_fld {fl : Str} (h : WE X e ρ m fun A m1 => ∃ C fs B, A = ins C fs ∧ L2.Cls X.K C ∧ NoAttr X.K C fl ∧ fs.lookup fl = some B ∧ Kt B m1) (hb : attributeBase e fl X.env (eval e X.env) = eval e X.env := by rfl) : WE X (.Attribute e fl pos) ρ m Kt := by
  intro fr σ H o Q g
  refine le_E (pe_fld wpE_pe hb) ?_
  refine h.to o fun A m1 v H1 ⟨C, fs, B, ea, cl, na, hB, q⟩ x1 o1 r1 => ?_
  subst ea
  obtain ⟨p, dx, vs, rfl, hp, np, rr⟩ := r1
  obtain ⟨b, hb', pb⟩ := rr.get hB
  exact ⟨p, C, dx, vs, b, rfl, hp, cl, na, hb', g _ m1 _ H1 q x1 o1 pb⟩
/-! ### built-ins -/
abbrev KCl := List AV → Mem → KA → Prop
def AbsCall (K : PySem.W.Frag) (r : List V → Hp → VK → Prop) (R : KCl) : Prop :=
  ∀ (As : List AV) (m : Mem) (Kt : KA) (fr : Frm) (ρ : Rho) (σ : St) (H : Hp) (vs : List V) (Q : VK), R As m Kt → Holds K fr ρ m σ H → AllV K (Ms fr m) H As vs → Got K fr ρ m σ H Kt Q → r vs H Q
theorem callRun {r : List V → Hp → VK → Prop} {R : KCl} (hr : AbsCall X.K r R) (h : WA X es ρ m fun As m1 => R As m1 Kt) {fr : Frm} {σ : St} {H : Hp} (o : Holds X.K fr ρ m σ H) {Q : VK} (g : Got X.K fr ρ m σ H Kt Q) : tCB r (wpA X es) σ H Q :=
  h fr σ H o _ fun As m1 vs H1 q x1 o1 r1 => hr As m1 Kt fr ρ σ H1 vs Q q o1 r1 (g.from x1)
include a in
theorem we_callB {x : Str} {p : Pos} {id : String} {r : List V → Hp → VK → Prop} {R : KCl} (hc : CallR X (.builtin id) r) (hr : AbsCall X.K r R) (hg : sc.names.lookup x = some .globalImplicit) (hm : mg x = none) (hv : bootBuiltins x = some (.builtin id))
    (h : WA X (e :: es) ρ m fun As m1 => R As m1 Kt) (hn : x ≠ "__name__" := by decide) (hdb : (x == ("__debug__" : Str)) = false := by decide)
    (he : starEach (e :: es) X.env = (false, eval e X.env) :: starEach es X.env := by rfl) (hpl : (backTo pos (starEach es X.env)).any (·.1) = false := by rfl) : WE X (.Call (.Name x p) (e :: es) [] pos) ρ m Kt :=
  fun fr σ H o Q g => le_E (pe_callB hc (gl_of a hg) (by rw [a.mt]; exact hm) hv wpA_pa hn hdb he hpl) (callRun hr h o g)
include a in
theorem we_callTy {x : Str} {p : Pos} {T : String} {r : List V → Hp → VK → Prop} {R : KCl} (hc : CallR X (.type T) r) (hr : AbsCall X.K r R) (hg : sc.names.lookup x = some .globalImplicit) (hm : mg x = none) (hv : bootBuiltins x = some (.type T))
    (h : WA X (e :: es) ρ m fun As m1 => R As m1 Kt) (hn : x ≠ "__name__" := by decide) (hdb : (x == ("__debug__" : Str)) = false := by decide)
    (he : starEach (e :: es) X.env = (false, eval e X.env) :: starEach es X.env := by rfl) (hpl : (backTo pos (starEach es X.env)).any (·.1) = false := by rfl) : WE X (.Call (.Name x p) (e :: es) [] pos) ρ m Kt :=
  fun fr σ H o Q g => le_E (pe_callTy hc (gl_of a hg) (by rw [a.mt]; exact hm) hv wpA_pa hn hdb he hpl) (callRun hr h o g)
include a in
theorem we_callG {x : Str} {p : Pos} {id : String} {r : List V → Hp → VK → Prop} {R : KCl} (hc : CallR X (.builtin id) r) (hr : AbsCall X.K r R) (hg : sc.names.lookup x = some .globalImplicit) (hm : mg x = some (.builtin id))
    (h : WA X (e :: es) ρ m fun As m1 => R As m1 Kt) (hdb : (x == ("__debug__" : Str)) = false := by decide)
    (he : starEach (e :: es) X.env = (false, eval e X.env) :: starEach es X.env := by rfl) (hpl : (backTo pos (starEach es X.env)).any (·.1) = false := by rfl) : WE X (.Call (.Name x p) (e :: es) [] pos) ρ m Kt :=
  fun fr σ H o Q g => le_E (pe_callBfun hc (gl_of a hg) (by rw [a.mt]; exact hm) wpA_pa hdb he hpl) (callRun hr h o g)
theorem abs_len : AbsCall K (fun xs H Q => ∃ p ys, xs = [V.ref p] ∧ (SqL K H p ys ∨ SqT K H p ys) ∧ Q (.int ys.length) H) fun As m Kt => ∃ A Bs, As = [A] ∧ IsSq m A Bs ∧ Kt (int Bs.length) m := by
  rintro As m Kt fr ρ σ H vs Q ⟨A, Bs, rfl, hs, q⟩ o r g
  cases r with
  | cons r t =>
    cases t
    obtain ⟨p, ys, rfl, h, rr⟩ := hs _ _ _ _ o.mem r
    exact ⟨p, ys, rfl, h, g _ m _ H q (.refl _ _) o (by rw [rr.length]; rfl)⟩
theorem abs_abs : AbsCall K (fun xs H Q => ∃ i, xs = [V.int i] ∧ Q (.int (if i < 0 then -i else i)) H) fun As m Kt => ∃ i, As = [int i] ∧ Kt (int (if i < 0 then -i else i)) m := by
  rintro As m Kt fr ρ σ H vs Q ⟨i, rfl, q⟩ o r g
  cases r with
  | cons r t =>
    cases t
    exact ⟨i, by rw [show _ = V.int i from r], g _ m _ H q (.refl _ _) o rfl⟩
theorem abs_int : AbsCall K (fun xs H Q => (∃ i, xs = [V.int i] ∧ Q (.int i) H) ∨ ∃ k, xs = [V.bl k] ∧ Q (.int (if k then 1 else 0)) H) fun As m Kt => (∃ i, As = [int i] ∧ Kt (int i) m) ∨ ∃ b, As = [bool b] ∧ Kt (int (if b then 1 else 0)) m := by
  rintro As m Kt fr ρ σ H vs Q hh o r g
  rcases hh with ⟨i, rfl, q⟩ | ⟨b, rfl, q⟩
  · cases r with
    | cons r t =>
      cases t
      exact .inl ⟨i, by rw [show _ = V.int i from r], g _ m _ H q (.refl _ _) o rfl⟩
  · cases r with
    | cons r t =>
      cases t
      exact .inr ⟨b, by rw [show _ = V.bl b from r], g _ m _ H q (.refl _ _) o rfl⟩
theorem abs_gcd : AbsCall K rGcd fun As m Kt => ∃ i j, As = [int i, int j] ∧ Kt (int ((Nat.gcd i.natAbs j.natAbs : Nat) : Int)) m := by
  rintro As m Kt fr ρ σ H vs Q ⟨i, j, rfl, q⟩ o r g
  cases r with
  | cons r t =>
    cases t with
    | cons r2 t2 =>
      cases t2
      exact ⟨i, j, by rw [show _ = V.int i from r, show _ = V.int j from r2], g _ m _ H q (.refl _ _) o rfl⟩
theorem allV_bools {M : List Addr} {H : Hp} : ∀ {bs : List Bool} {vs : List V}, AllV K M H (bs.map bool) vs → vs = bs.map V.bl
  | [], _, .nil => rfl
  | b :: bs, _, .cons r t => by rw [List.map_cons, allV_bools t, show _ = V.bl b from r]
theorem abs_all : AbsCall K (rAll K) fun As m Kt => ∃ bs : List Bool, As = [lst (bs.map bool)] ∧ Kt (bool (bs.all id)) m := by
  rintro As m Kt fr ρ σ H vs Q ⟨bs, rfl, q⟩ o r g
  cases r with
  | cons r t =>
    cases t
    obtain ⟨p, ys, rfl, h, rr⟩ := r
    rw [allV_bools rr] at h
    exact ⟨p, bs, rfl, h.sq, g _ m _ H q (.refl _ _) o rfl⟩
theorem abs_any : AbsCall K (rAny K) fun As m Kt => ∃ bs : List Bool, As = [lst (bs.map bool)] ∧ Kt (bool (bs.any id)) m := by
  rintro As m Kt fr ρ σ H vs Q ⟨bs, rfl, q⟩ o r g
  cases r with
  | cons r t =>
    cases t
    obtain ⟨p, ys, rfl, h, rr⟩ := r
    rw [allV_bools rr] at h
    exact ⟨p, bs, rfl, h.sq, g _ m _ H q (.refl _ _) o rfl⟩
theorem abs_tupleOf : AbsCall K (fun xs H Q => ∃ p ys, xs = [V.ref p] ∧ ((SqL K H p ys ∧ ∀ l, H l = none → Q (.ref l) (upd H l (.tup ys))) ∨ (SqT K H p ys ∧ Q (.ref p) H))) fun As m Kt => (∃ A Bs, As = [A] ∧ IsLs m A Bs ∧ Kt (tup Bs) m) ∨ ∃ Bs, As = [tup Bs] ∧ Kt (tup Bs) m := by
  rintro As m Kt fr ρ σ H vs Q hh o r g
  rcases hh with ⟨A, Bs, rfl, hs, q⟩ | ⟨Bs, rfl, q⟩
  · cases r with
    | cons r t =>
      cases t
      obtain ⟨p, ys, rfl, h, rr⟩ := hs _ _ _ _ o.mem r
      exact ⟨p, ys, rfl, .inl ⟨.inl (.inl h), fun l hl => g _ m _ _ q (.alloc hl) (o.alloc hl) ⟨l, _, rfl, at_new o.mem hl, rr.st (.alloc hl)⟩⟩⟩
  · cases r with
    | cons r t =>
      cases t
      obtain ⟨p, ys, rfl, h, rr⟩ := r
      exact ⟨p, ys, rfl, .inr ⟨h.sq, g _ m _ H q (.refl _ _) o ⟨p, ys, rfl, h, rr⟩⟩⟩
/-- equality of data -/
def IsDat (m : Mem) (A : AV) (d : PyData) : Prop := ∀ (K : PySem.W.Frag) (fr : Frm) (H : Hp) (v : V), MemV K fr m H → A.p K (Ms fr m) H v → Dp K H v d
theorem isDat_int {n : Int} : IsDat m (int n) (.int n) := fun K fr H v _ e => by rw [show v = V.int n from e]; exact .int n
theorem isDat_bool {n : Bool} : IsDat m (bool n) (.bool n) := fun K fr H v _ e => by rw [show v = V.bl n from e]; exact .bl n
theorem isDat_non : IsDat m non .none := fun K fr H v _ e => by rw [show v = V.non from e]; exact .non
theorem isDat_str {n : Str} : IsDat m (str n) (.str n) := fun K fr H v _ e => by rw [show v = V.str n from e]; exact .str n
abbrev AllDat (m : Mem) : List AV → List PyData → Prop := Paired fun A d => IsDat m A d
theorem AllDat.dp {fr : Frm} {H : Hp} (o : MemV K fr m H) : ∀ {As : List AV} {ds : List PyData} {vs : List V}, AllDat m As ds → AllV K (Ms fr m) H As vs → DpAll K H vs ds
  | _, _, _, .nil, .nil => .nil
  | _, _, _, .cons h t, .cons r q => .cons (h _ _ _ _ o r) (AllDat.dp o t q)
theorem isDat_tup {As : List AV} {ds : List PyData} (h : AllDat m As ds) : IsDat m (tup As) (.tuple ds) := fun K fr H v o ⟨p, vs, e, t, r⟩ => by
  subst e
  exact .tup t.sq (h.dp o r)
theorem isDat_ls {A : AV} {As : List AV} {ds : List PyData} (hl : IsLs m A As) (h : AllDat m As ds) : IsDat m A (.list ds) := fun K fr H v o r => by
  obtain ⟨p, vs, e, t, r'⟩ := hl _ _ _ _ o r
  subst e
  exact .lst (.inl (.inl t)) (h.dp o r')
theorem abs_eqD : AbsOp K (rEqD K) fun A B m Kt => ∃ d d', IsDat m A d ∧ IsDat m B d' ∧ SeqAt.shaped d = true ∧ SeqAt.shaped d' = true ∧ Kt (bool (PyData.eqv d d')) m := by
  rintro A B m Kt fr ρ σ H x y Q ⟨d, d', hA, hB, s1, s2, q⟩ o rx ry g
  exact ⟨d, d', hA _ _ _ _ o.mem rx, hB _ _ _ _ o.mem ry, s1, s2, g _ m _ H q (.refl _ _) o rfl⟩
theorem abs_neD : AbsOp K (rNeD K) fun A B m Kt => ∃ d d', IsDat m A d ∧ IsDat m B d' ∧ SeqAt.shaped d = true ∧ SeqAt.shaped d' = true ∧ Kt (bool (!PyData.eqv d d')) m := by
  rintro A B m Kt fr ρ σ H x y Q ⟨d, d', hA, hB, s1, s2, q⟩ o rx ry g
  exact ⟨d, d', hA _ _ _ _ o.mem rx, hB _ _ _ _ o.mem ry, s1, s2, g _ m _ H q (.refl _ _) o rfl⟩
end
end AL
namespace AL
open PySem PySem.Spec L2
open PyProof.Rows hiding St
/-- what a def is worth: its arguments, the memory that it sees, what is wanted of its value -/
abbrev CT := List AV → Mem → KA → Prop
def spOf (K : PySem.W.Frag) (C : CT) : Sp := fun vs H Q _ => ∃ fr As m Kt, C As m Kt ∧ MemV K fr m H ∧ AllV K (Ms fr m) H As vs ∧
  ∀ A m' v H', Kt A m' → Ext (Ms fr m) H (Ms fr m') H' → MemV K fr m' H' → A.p K (Ms fr m') H' v → Q v H'
/-- a def of the module -/
def FnC (P : Program) (w : World) (K : PySem.W.Frag) (mg : Str → Option Value) (base : Heap) (j : Nat) (x : Str) (C : CT) : Prop :=
  ∃ f fd ps, FnOk P w K mg base CX0 j f fd ps (spOf K C) ∧ mg x = some (.ref f) ∧ PySem.W.keepIn K (.ref f) = true ∧ Binds K fd ps []
theorem FnC.mono {P : Program} {w : World} {K : PySem.W.Frag} {mg : Str → Option Value} {base : Heap} {i j : Nat} {x : Str} {C : CT} (h : FnC P w K mg base i x C) (hj : i ≤ j) : FnC P w K mg base j x C := by
  obtain ⟨f, fd, ps, h1, h2⟩ := h
  exact ⟨f, fd, ps, h1.mono hj, h2⟩
/-- back from locals -/
def Conv (A : AV) (m : Mem) (B : AV) (m' : Mem) : Prop := ∀ (K : PySem.W.Frag) (fr : Frm) (H : Hp) (v : V), MemV K fr m H → A.p K (Ms fr m) H v → B.p K (Ms fr m') H v
theorem conv_drop {A : AV} {m loc : Mem} : Conv A (m ++ loc) A m := fun K fr H v _ r => A.st r (.same fun x z => by
  unfold Ms at *
  rw [List.map_append]
  rcases List.mem_append.mp z with z | z
  · exact List.mem_append_left _ z
  · exact List.mem_append_right _ (List.mem_append_left _ z))
theorem conv_same {A : AV} {m : Mem} : Conv A m A m := fun K fr H v _ r => r
theorem MemV.drop {K : PySem.W.Frag} {fr : Frm} {m loc : Mem} {H : Hp} (o : MemV K fr (m ++ loc) H) : MemV K fr m H ∧ Ext (Ms fr (m ++ loc)) H (Ms fr m) H := by
  have x : Ext (Ms fr (m ++ loc)) H (Ms fr m) H := .same fun x z => by
    unfold Ms at *
    rw [List.map_append]
    rcases List.mem_append.mp z with z | z
    · exact List.mem_append_left _ z
    · exact List.mem_append_right _ (List.mem_append_left _ z)
  refine ⟨⟨o.frm, fun b As z => ?_, ?_⟩, x⟩
  · obtain ⟨vs, e, r⟩ := o.at_ b As (List.mem_append_left _ z)
    exact ⟨vs, e, r.st x⟩
  · have nd := o.nd
    unfold Ms at nd ⊢
    rw [List.map_append, ← List.append_assoc] at nd
    exact (List.nodup_append.mp nd).1
theorem conv_mut {q : Addr} {As : List AV} {m loc : Mem} (h : (q, .l As) ∈ loc) : Conv (val (.ref q)) (m ++ loc) (lst As) m := fun K fr H v o r => by
  obtain ⟨u, e, rr⟩ := o.at_ q _ (List.mem_append_right _ h)
  obtain ⟨vs, rfl, rr⟩ := rr.lst
  obtain ⟨_, x⟩ := o.drop
  refine ⟨q, vs, r, ⟨e, fun z => ?_⟩, rr.st x⟩
  have nd := o.nd
  unfold Ms at nd z
  rw [List.map_append, ← List.append_assoc] at nd
  exact (List.nodup_append.mp nd).2.2 q z q (List.mem_map.mpr ⟨_, h, rfl⟩) rfl
def startR (N : List Str) (As : List AV) : Rho := As.map some ++ List.replicate (N.length - As.length) none
section
variable {P : Program} {w : World} {K : PySem.W.Frag} {mg : Str → Option Value} {base : Heap} {N : List Str} {sc : Scope} {df : Bool} {k : Nat} {X : Cx}
variable {ρ : Rho} {m : Mem} {Kt : KA} {pos : Pos} {e f : Expr} {E : EndsA} {Kl : KL} {es : List Expr} {Kb : KT}
theorem startV {fr : Frm} {H : Hp} {As : List AV} {vs : List V} (r : AllV K (Ms fr m) H As vs) : EnvV K (Ms fr m) H (startR N As) (L2.start N vs) := by
  have h2 : ∀ n : Nat, EnvV K (Ms fr m) H (List.replicate n none) (List.replicate n none) := fun n => by
    induction n with
    | zero => exact .nil
    | succ n ih => exact .cons trivial ih
  have h1 : ∀ {As : List AV} {vs : List V}, AllV K (Ms fr m) H As vs → ∀ n : Nat, EnvV K (Ms fr m) H (As.map some ++ List.replicate n none) (vs.map some ++ List.replicate n none) := fun {As vs} r n => by
    induction r with
    | nil => exact h2 n
    | cons h t ih => exact .cons h ih
  have q := h1 r (N.length - As.length)
  unfold startR L2.start
  rw [← r.length]
  exact q
/-- what is wanted behind a body -/
def bodyE (Kt : KA) : EndsA where
  nx := fun _ m' => ∃ mr loc, m' = mr ++ loc ∧ Kt non mr
  rt := fun A m' => ∃ B mr loc, m' = mr ++ loc ∧ Conv A m' B mr ∧ Kt B mr
theorem bodyE.ret {A : AV} {Kt : KA} {m : Mem} (h : Kt A m) : (bodyE Kt).rt A m := ⟨A, m, [], by simp, conv_same, h⟩
/-- THE RULE for a def -/
theorem fnOk {x qual : Str} {st : Stmt} {f : Addr} {fd : FuncData} {ps : List Str} {j : Nat} {C : CT} (F : Fun K x qual st f fd) (S : FnScope N ps (defScope st))
    (len : ∀ As m Kt, C As m Kt → As.length = ps.length)
    (body : ∀ X, At P w K mg base N (defScope st) true j X → ∀ As m Kt, C As m Kt → WSs X (defBody st) (startR N As) m (bodyE Kt)) : FnOk P w K mg base CX0 (j + 1) f fd ps (spOf K C) := by
  refine F.ok S (fun vs H Q E ⟨fr, As, m, Kt, hc, _, r, _⟩ => by rw [← r.length]; exact len As m Kt hc) (fun cdv A outer s H vs Q E hr h => ?_)
  obtain ⟨fr, As, m, Kt, hc, mv, r, g⟩ := h
  refine ⟨_, wpSs_pss, ?_⟩
  refine body _ ⟨rfl, rfl, rfl, rfl, rfl, rfl, rfl, rfl, hr, S.nd, fun _ _ => rfl, PassesOwn.never⟩ As m Kt hc fr _ H ⟨startV r, mv⟩ _ ⟨fun ρ' m' σ' H' ⟨mr, loc, e, q⟩ x o => ?_, fun A m' v H' ⟨B, mr, loc, e, cv, q⟩ x o r' => ?_, fun ρ' m' σ' H' q x o => q.elim, fun ρ' m' σ' H' q x o => q.elim⟩
  · subst e
    obtain ⟨mv', x'⟩ := o.mem.drop
    exact g non mr .non H' q (x.trans x') mv' rfl
  · subst e
    obtain ⟨mv', x'⟩ := o.drop
    exact g B mr v H' q (x.trans x') mv' (cv K fr H' v o r')
theorem fnC {x qual : Str} {st : Stmt} {f : Addr} {fd : FuncData} {ps : List Str} {j : Nat} {C : CT} (F : Fun K x qual st f fd) (S : FnScope N ps (defScope st)) (hm : mg x = some (.ref f)) (hb : Binds K fd ps [])
    (len : ∀ As m Kt, C As m Kt → As.length = ps.length)
    (body : ∀ X, At P w K mg base N (defScope st) true j X → ∀ As m Kt, C As m Kt → WSs X (defBody st) (startR N As) m (bodyE Kt)) : FnC P w K mg base (j + 1) x C :=
  ⟨f, fd, ps, fnOk F S len body, hm, F.kp, hb⟩
/-- a method of the class at C -/
def MethC (P : Program) (w : World) (K : PySem.W.Frag) (mg : Str → Option Value) (base : Heap) (j : Nat) (C : Addr) (name : Str) (Cn : CT) : Prop :=
  ∃ g fd ps, PySem.W.findIn K (.ref C) name = some (some (.ref g)) ∧ PySem.W.isFn K (.ref g) = true ∧ L2.Binds K fd ps [] ∧ FnOk P w K mg base CX0 j g fd ps (spOf K Cn)
theorem call_lenOwn {C g : Addr} {fd : FuncData} {ps : List Str} {sp : Sp} {j : Nat} (hl : PySem.W.findIn X.K (.ref C) "__len__" = some (some (.ref g))) (hf : PySem.W.isFn X.K (.ref g) = true) (hb : L2.Binds X.K fd ps []) (F : FnOk X.prog X.w X.K X.mg X.base CX0 j g fd ps sp) (hr : Room (j + 1) X.A) :
    CallR X (.builtin "len") (fun xs H Q => ∃ a dx fs, xs = [V.ref a] ∧ H a = some (.ins C dx fs) ∧ sp [.ref a] H (fun v H' => ∃ n : Int, v = .int n ∧ 0 ≤ n ∧ n < 2 ^ 63 ∧ Q (.int n) H') E0) := by
  intro pins s σ H xs us Q I r h
  obtain ⟨p, dx, fs, rfl, hp, hs⟩ := h
  obtain ⟨u, rfl, ru⟩ := r.one
  obtain rfl : u = Value.ref p := ru
  obtain ⟨mA, O, _⟩ := ins_get I.hok hp
  obtain ⟨od, J, _⟩ := O.look
  obtain ⟨fm, hfr⟩ := I.fr
  have lenq : ([Value.ref p] ++ []).length = ps.length := (F.len _ _ _ _ hs)
  refine PySem.W.len_K hfr I.ok.mod.kin J hl hf (wpAny_call (codeAny_mono (F.run X.A.in1 X.stack s H ⟨[.ref p], []⟩ [.ref p] [.ref p] _ E0 hr.in1 I.env0.in1 (hb s [.ref p] I.kIn lenq) (.cons rfl .nil) hs) fun res s' hq => ?_))
  cases res with
  | error er => exact hq.elim
  | ok fl =>
    cases fl with
    | ret u =>
      obtain ⟨v, H', I3, rv, n, en, h0, h1, q3⟩ := I.after hq
      subst en
      obtain ⟨t, rfl⟩ := rv
      exact ⟨⟨h0, h1⟩, .int n, H', I3.tok _, ⟨_, rfl⟩, q3⟩
    | next => exact hq.elim
    | brk => exact hq.elim
    | cont => exact hq.elim
variable (a : At P w K mg base N sc df k X)
/-- f(..) -/
theorem call_sp {C : CT} {fr : Frm} {H1 : Hp} {As : List AV} {vs : List V} {mc mf : Mem} {σ : St} {Q : VK} (hC : C As mc fun A mc' => Kt A (mc' ++ mf)) (o1 : Holds K fr ρ (mc ++ mf) σ H1) (r1 : AllV K (Ms fr (mc ++ mf)) H1 As vs) (g : Got K fr ρ (mc ++ mf) σ H1 Kt Q) (E' : XK) : spOf K C vs H1 Q E' := by
  obtain ⟨gf, e1, mv, back⟩ := o1.mem.call
  have hmm := split_ms (fr := fr) (m1 := mc) e1
  refine ⟨gf ++ fr, As, mc, _, hC, mv, r1.st (.same fun x z => (hmm x).mp z), fun A mc' v H' k x mv' r' => ?_⟩
  have hm' := split_ms (fr := fr) (m1 := mc') e1
  have x' : Ext (Ms fr (mc ++ mf)) H1 (Ms fr (mc' ++ mf)) H' := ((Ext.same fun x z => (hmm x).mp z).trans x).trans (.same fun x z => (hm' x).mpr z)
  exact g A (mc' ++ mf) v H' k x' ⟨o1.env.st x', back mc' H' x mv'⟩ (A.st r' (.same fun x z => (hm' x).mpr z))
include a in
theorem we_call {j : Nat} {x : Str} {p : Pos} {C : CT} (F : FnC P w K mg base j x C) (hj : j ≤ k) (hg : sc.names.lookup x = some .globalImplicit) (h : WA X (e :: es) ρ m fun As m1 => ∃ mc mf, m1 = mc ++ mf ∧ C As mc fun A mc' => Kt A (mc' ++ mf))
    (hdb : (x == ("__debug__" : Str)) = false := by decide) (he : starEach (e :: es) X.env = (false, eval e X.env) :: starEach es X.env := by rfl) (hpl : (backTo pos (starEach es X.env)).any (·.1) = false := by rfl) : WE X (.Call (.Name x p) (e :: es) [] pos) ρ m Kt := by
  intro fr σ H o Q g
  obtain ⟨f, fd, ps, F, hm, hk, hb⟩ := F
  have hr := a.room.mono hj
  obtain ⟨rfl, rfl, rfl, rfl, rfl, _⟩ := a
  refine le_E (pe_call (E := E0) F hr (by show X.env.scope.names.lookup x = _; simp_all) hm hk hb .nil pass0 wpA_pa hdb he hpl) ?_
  refine h fr σ H o _ fun As m1 vs H1 ⟨mc, mf, e1, hC⟩ x1 o1 r1 => ?_
  subst e1
  rw [List.append_nil]
  exact call_sp hC o1 r1 (g.from x1) _
/-! ### one's own classes -/
/-- a class: what its attributes are when it is made of such arguments -/
abbrev KF := List (Str × AV) → Prop
def C_init (C : Addr) (R : List AV → KF → Prop) : CT := fun As m Kt => ∃ q Bs, As = val (.ref q) :: Bs ∧ m = [(q, .i C [])] ∧ R Bs fun fs => Kt non [(q, .i C fs)]
structure ClsC (P : Program) (w : World) (K : PySem.W.Frag) (mg : Str → Option Value) (base : Heap) (j : Nat) (x : Str) (C : Addr) (R : List AV → KF → Prop) : Prop where
  cls : L2.Cls K C
  mgC : mg x = some (.ref C)
  mono : ∀ As k k', R As k → (∀ fs, k fs → k' fs) → R As k'
  make : ∃ f fd ps, L2.Mk K C f ∧ L2.Binds K fd ps [] ∧ FnOk P w K mg base CX0 j f fd ps (spOf K (C_init C R))
include a in
theorem we_make {j : Nat} {x : Str} {p : Pos} {C : Addr} {R : List AV → KF → Prop} (F : ClsC P w K mg base j x C R) (hj : j + 1 ≤ k) (hg : sc.names.lookup x = some .globalImplicit)
    (h : WA X (e :: es) ρ m fun As m1 => R As fun fs => Kt (ins C fs) m1)
    (hdb : (x == ("__debug__" : Str)) = false := by decide) (he : starEach (e :: es) X.env = (false, eval e X.env) :: starEach es X.env := by rfl) (hpl : (backTo pos (starEach es X.env)).any (·.1) = false := by rfl) : WE X (.Call (.Name x p) (e :: es) [] pos) ρ m Kt := by
  intro fr σ H o Q g
  have hm := F.mgC
  have Fmono := F.mono
  obtain ⟨f, fd, ps, M, hb, F⟩ := F.make
  have hr := a.room.mono hj
  obtain ⟨rfl, rfl, rfl, rfl, rfl, _⟩ := a
  refine le_E (pe_make (E := E0) M F hr (by show X.env.scope.names.lookup x = _; simp_all) hm hb .nil pass0 wpA_pa hdb he hpl) ?_
  refine h fr σ H o _ fun As m1 vs H1 hR x1 o1 r1 => ?_
  intro xa dx hx hdx hne
  rw [List.append_nil]
  obtain ⟨gf, e1, mv, back⟩ := MemV.call (m1 := []) (m2 := m1) o1.mem
  have hmm := split_ms (fr := fr) (m1 := []) e1
  have mv1 : MemV X.K (gf ++ fr) [] (upd H1 dx (.own xa)) := mv.alloc hdx
  have hx' : upd H1 dx (.own xa) xa = none := by rw [upd_ne hne.symm]; exact hx
  have mv2 := mv1.push (o := .ins C dx []) hx'
  have xa1 : Ext (Ms (gf ++ fr) []) H1 (Ms ((xa, .ins C dx []) :: (gf ++ fr)) []) (upd (upd H1 dx (.own xa)) xa (.ins C dx [])) := (Ext.alloc hdx).trans (.push hx')
  have same : ∀ c z, z ∈ Ms (gf ++ fr) [(xa, c)] ↔ z ∈ Ms ((xa, HO.ins C dx []) :: (gf ++ fr)) [] := fun c z => by
    unfold Ms
    simp only [List.map_cons, List.map_nil, List.append_nil, List.mem_append, List.mem_cons, List.not_mem_nil, or_false]
    exact or_comm
  have nx := (List.nodup_cons.mp mv2.nd).1
  have mv3 : MemV X.K (gf ++ fr) [(xa, .i C [])] (upd (upd H1 dx (.own xa)) xa (.ins C dx [])) := by
    refine ⟨fun b v z => mv2.frm b v (List.mem_cons_of_mem _ z), fun b c z => ?_, ?_⟩
    · rw [List.mem_singleton] at z
      cases z
      exact ⟨_, upd_same, rfl, .nil⟩
    · have nd : ((gf ++ fr).map (·.1)).Nodup := by simpa [Ms] using (List.nodup_cons.mp mv2.nd).2
      have nx : xa ∉ (gf ++ fr).map (·.1) := by simpa [Ms] using nx
      exact List.nodup_append.mpr ⟨nd, by simp, fun y hy z hz => by
        rw [List.map_cons, List.map_nil, List.mem_singleton] at hz
        subst hz
        intro ee
        subst ee
        exact nx hy⟩
  refine ⟨gf ++ fr, val (.ref xa) :: As, [(xa, .i C [])], fun A m' => A = non ∧ ∃ fs, m' = [(xa, .i C fs)] ∧ Kt (ins C fs) m1, ⟨xa, As, rfl, rfl, Fmono As _ _ hR fun fs kk => ⟨rfl, fs, rfl, kk⟩⟩, mv3, .cons rfl (((r1.st (.same fun x z => (hmm x).mp z)).st xa1).st (.same fun z hz => (same _ z).mp hz)), fun A m' v H' kk x2 mv4 rv => ?_⟩
  obtain ⟨rfl, fs, rfl, kk⟩ := kk
  refine ⟨rv, ?_⟩
  obtain ⟨u, hu, ru⟩ := mv4.at_ xa (.i C fs) (by simp)
  obtain ⟨dx', fv, rfl, ru2⟩ := ru.ins
  have nx' : xa ∉ Ms (gf ++ fr) [] := (List.nodup_cons.mp mv2.nd).1
  have x5 : Ext (Ms (gf ++ fr) [(xa, .i C fs)]) H' (Ms (gf ++ fr) []) H' := .same fun z hz => by
    unfold Ms at hz ⊢
    rw [List.map_nil, List.append_nil] at hz
    exact List.mem_append_left _ hz
  have x3 : Ext (Ms (gf ++ fr) []) H1 (Ms (gf ++ fr) []) H' := ((xa1.trans (.same fun z hz => (same _ z).mp hz)).trans x2).trans x5
  have x4 : Ext (Ms fr m1) H1 (Ms fr m1) H' := ((Ext.same fun x z => (hmm x).mp z).trans x3).trans (.same fun x z => (hmm x).mpr z)
  have mv5 : MemV X.K (gf ++ fr) [] H' := ⟨mv4.frm, fun b c z => absurd z (by simp), by
    have nd := mv4.nd
    unfold Ms at nd ⊢
    exact (List.nodup_append.mp nd).1 |> fun q => by simpa using q⟩
  refine g _ m1 _ H' kk (x1.trans x4) ⟨o1.env.st x4, back [] H' x3 mv5⟩ ⟨xa, dx', fv, rfl, hu, fun z => nx' ((hmm xa).mpr z), FieldsV.st ru2 (x5.trans (.same fun x z => (hmm x).mpr z))⟩
end
end AL
namespace AL
open PySem PySem.Spec L2
open PyProof.Rows hiding St
section
variable {P : Program} {w : World} {K : PySem.W.Frag} {mg : Str → Option Value} {base : Heap} {N : List Str} {sc : Scope} {df : Bool} {k : Nat} {X : Cx}
variable {ρ : Rho} {m : Mem} {Kt : KA} {pos : Pos} {e f : Expr} {E : EndsA} {Kl : KL} {es : List Expr} {Kb : KT}
variable (a : At P w K mg base N sc df k X)
/-! ### what changes -/
theorem ms_re {fr : Frm} {m1 m2 : Mem} {q : Addr} {c c' : Cell} : Ms fr (m1 ++ (q, c) :: m2) = Ms fr (m1 ++ (q, c') :: m2) := by
  unfold Ms; simp
theorem in_ms {fr : Frm} {m1 m2 : Mem} {q : Addr} {c : Cell} : q ∈ Ms fr (m1 ++ (q, c) :: m2) := by
  unfold Ms; simp
theorem re_ext {fr : Frm} {m1 m2 : Mem} {q : Addr} {c c' : Cell} {H : Hp} {u' : HO} : Ext (Ms fr (m1 ++ (q, c) :: m2)) H (Ms fr (m1 ++ (q, c') :: m2)) (upd H q u') := by
  rw [ms_re (c := c') (c' := c)]
  exact .store in_ms
theorem MemV.rewrite {fr : Frm} {m1 m2 : Mem} {q : Addr} {c c' : Cell} {H : Hp} {u' : HO} (o : MemV K fr (m1 ++ (q, c) :: m2) H) (h : CellO K (Ms fr (m1 ++ (q, c) :: m2)) H c' u') : MemV K fr (m1 ++ (q, c') :: m2) (upd H q u') := by
  have x : Ext (Ms fr (m1 ++ (q, c) :: m2)) H (Ms fr (m1 ++ (q, c') :: m2)) (upd H q u') := re_ext
  have nd := o.nd
  have nd' := nd
  rw [ms_re (c := c) (c' := c')] at nd'
  have hq : q ∉ fr.map (·.1) ∧ q ∉ m1.map (·.1) ∧ q ∉ m2.map (·.1) := by
    unfold Ms at nd
    rw [List.map_append, List.map_cons] at nd
    have h1 := List.nodup_append.mp nd
    have h2 := List.nodup_append.mp h1.2.1
    have h3 := List.nodup_cons.mp h2.2.1
    refine ⟨fun z => h1.2.2 q z q (by simp) rfl, fun z => h2.2.2 q z q (by simp) rfl, h3.1⟩
  refine ⟨fun b v z => ?_, fun b d z => ?_, nd'⟩
  · have e := o.frm b v z
    rw [upd_ne (fun y => hq.1 (by rw [← y]; exact List.mem_map.mpr ⟨_, z, rfl⟩))]; exact e
  · rcases List.mem_append.mp z with z | z
    · obtain ⟨v, e, r⟩ := o.at_ b d (List.mem_append_left _ z)
      exact ⟨v, by rw [upd_ne (fun y => hq.2.1 (by rw [← y]; exact List.mem_map.mpr ⟨_, z, rfl⟩))]; exact e, r.st x⟩
    · rcases List.mem_cons.mp z with z | z
      · cases z
        exact ⟨u', upd_same, h.st x⟩
      · obtain ⟨v, e, r⟩ := o.at_ b d (List.mem_append_right _ (List.mem_cons_of_mem _ z))
        exact ⟨v, by rw [upd_ne (fun y => hq.2.2 (by rw [← y]; exact List.mem_map.mpr ⟨_, z, rfl⟩))]; exact e, r.st x⟩
include a in
/-- name = a new list that is to be changed -/
theorem ws_new (i : Nat) {x : Str} {pos' : Pos} (hN : N[i]? = some x) (hl : sc.names.lookup x = some .local ∨ (df = true ∧ sc.names.lookup x = some .cell)) (h : WN X e ρ m fun As m1 => ∀ q, E.nx (ρ.set i (some (val (.ref q)))) (m1 ++ [(q, .l As)]))
    (hs : swapsWith e (some (.Name x pos')) pos.line X.env = pure false := by rfl) : WS X (.Assign [.Name x pos'] e pos) ρ m E := by
  intro fr σ H o D g
  refine le_S (ps_set (i := i) (by rw [a.nm]; exact a.nd) (by rw [a.nm]; exact hN) ?_ wpE_pe hs ?_) ?_
  · unfold L2.Loc
    rw [a.sce]
    rcases hl with h | h
    · exact .inl h
    · exact .inr h.2
  · rcases hl with h | h
    · exact .inr (by rw [a.sce]; exact h)
    · exact .inl (a.fnc h.1 x)
  refine h fr σ H o _ fun As m' q vs H' k x1 o' r => ?_
  have hms : ∀ z, z ∈ Ms fr (m' ++ [(q, .l As)]) ↔ z ∈ Ms ((q, .lst vs) :: fr) m' := fun z => by
    unfold Ms
    simp only [List.map_append, List.map_cons, List.map_nil, List.mem_append, List.mem_cons, List.not_mem_nil, or_false]
    constructor
    · rintro (h | h | h)
      · exact .inl (.inr h)
      · exact .inr h
      · exact .inl (.inl h)
    · rintro ((h | h) | h)
      · exact .inr (.inr h)
      · exact .inl h
      · exact .inr (.inl h)
  have xs : Ext (Ms ((q, .lst vs) :: fr) m') H' (Ms fr (m' ++ [(q, .l As)])) H' := .same fun z hz => (hms z).mp hz
  have nq := (List.nodup_cons.mp o'.mem.nd).1
  refine g.nx _ _ _ H' (k q) (x1.trans xs) ⟨(o'.env.st xs).set rfl i, ⟨fun b v z => o'.mem.frm b v (List.mem_cons_of_mem _ z), fun b c z => ?_, nd_snoc (List.nodup_cons.mp o'.mem.nd).2 nq⟩⟩
  rcases List.mem_append.mp z with z | z
  · obtain ⟨v, e, r'⟩ := o'.mem.at_ b c z
    exact ⟨v, e, r'.st xs⟩
  · rw [List.mem_singleton] at z
    cases z
    exact ⟨_, o'.mem.frm _ _ List.mem_cons_self, AllV.st r xs⟩
theorem FieldsV.snoc {M : List Addr} {H : Hp} {fl : Str} {B : AV} {b : V} (hb : B.p K M H b) : ∀ {fs : List (Str × AV)} {vs : List (Str × V)}, FieldsV K M H fs vs → FieldsV K M H (fs ++ [(fl, B)]) (vs ++ [(fl, b)])
  | _, _, .nil => .cons ⟨rfl, hb⟩ .nil
  | _, _, .cons r t => .cons r (FieldsV.snoc hb t)
theorem putF_new {M : List Addr} {H : Hp} {fl : Str} {b : V} : ∀ {fs : List (Str × AV)} {vs : List (Str × V)}, FieldsV K M H fs vs → fs.lookup fl = none → putF fl b vs = vs ++ [(fl, b)]
  | _, _, .nil, _ => rfl
  | (g, B) :: fs, (g', v) :: vs, .cons r t, e => by
    obtain ⟨r1, _⟩ := r
    simp only at r1
    subst r1
    rw [List.lookup_cons] at e
    cases q : fl == g with
    | true => rw [q] at e; cases e
    | false =>
      rw [q] at e
      have ne : fl ≠ g := by simpa using q
      unfold putF
      simp [ne, ne.symm, putF_new t e]
/-- xs[i] = v -/
theorem ws_store {o i : Expr} {spos : Pos} (h : WE X e ρ m fun B m1 => WE X o ρ m1 fun A m2 => WE X i ρ m2 fun I m3 => ∃ q As m4 m5 n j, A = val (.ref q) ∧ I = int n ∧ m3 = m4 ++ (q, .l As) :: m5 ∧ ixN As.length n = some j ∧ E.nx ρ (m4 ++ (q, .l (As.set j B)) :: m5)) {ppos : Pos}
    (hs : swapsWithSole [.Subscript o i ppos] e spos.line X.env = pure false := by rfl) (hw : swappedStores [.Subscript o i ppos] e X.env = pure none := by rfl) (h1 : (assignEach [.Subscript o i ppos] X.env).map (·.2) = [assign (.Subscript o i ppos) X.env] := by rfl)
    (ha : ∀ v, assign (.Subscript o i ppos) X.env v = (do
      let ov ← holding [v] (eval o X.env)
      let iv ← holding [v, ov] (eval i X.env)
      standAt ppos
      holding [v, ov, iv] (setItem ov iv v)
      release [v, ov, iv] []) := by intro _; rfl) :
    WS X (.Assign [.Subscript o i ppos] e spos) ρ m E := by
  intro fr σ H hh D g
  refine le_S (ps_asg wpE_pe (pg_sub wpE_pe wpE_pe set_list ha) hs hw h1) ?_
  refine h.to hh fun B m1 b H1 h1 x1 o1 r1 => h1.to o1 fun A m2 v H2 h2 x2 o2 r2 => h2.to o2 fun I m3 iv H3 ⟨q, As, m4, m5, n, j, ea, ei, em, hj, hn⟩ x3 o3 r3 => ?_
  subst ea ei em
  have r2' : v = V.ref q := r2
  have r3' : iv = V.int n := r3
  subst r2' r3'
  obtain ⟨u, e1, rr⟩ := o3.mem.at_ q (.l As) (by simp)
  obtain ⟨vs, rfl, rr⟩ := rr.lst
  refine ⟨q, vs, n, j, rfl, rfl, e1, by rw [← rr.length]; exact hj, ?_⟩
  exact g.nx _ _ _ _ hn (((x1.trans x2).trans x3).trans re_ext) ⟨o3.env.st re_ext, o3.mem.rewrite (show CellO X.K _ H3 (.l (As.set j B)) (.lst (vs.set j b)) from AllV.set (B.st r1 (x2.trans x3)) j rr)⟩
/-- o.f = v of an instance that is being made -/
theorem ws_fld {o : Expr} {fl : Str} {p' : Pos} (h : WE X e ρ m fun B m1 => WE X o ρ m1 fun A m2 => ∃ q C fs m4 m5, A = val (.ref q) ∧ m2 = m4 ++ (q, .i C fs) :: m5 ∧ L2.Cls X.K C ∧ NoAttr X.K C fl ∧ fs.length < 1000 ∧ fs.lookup fl = none ∧ E.nx ρ (m4 ++ (q, .i C (fs ++ [(fl, B)])) :: m5))
    (hs : swapsWith e (some (.Attribute o fl p')) pos.line X.env = pure false := by rfl) : WS X (.Assign [.Attribute o fl p'] e pos) ρ m E := by
  intro fr σ H hh D g
  refine le_S (ps_fld wpE_pe wpE_pe hs) ?_
  refine h.to hh fun B m1 b H1 h1 x1 o1 r1 => h1.to o1 fun A m2 v H2 ⟨q, C, fs, m4, m5, ea, em, cl, na, hl, hlk, hn⟩ x2 o2 r2 => ?_
  subst ea em
  have r2' : v = V.ref q := r2
  subst r2'
  obtain ⟨u, e1, rr⟩ := o2.mem.at_ q (.i C fs) (by simp)
  obtain ⟨dx, vs, rfl, rr2⟩ := rr.ins
  have hl2 : fs.length = vs.length := Paired.length rr2
  have pf : putF fl b vs = vs ++ [(fl, b)] := putF_new rr2 hlk
  refine ⟨q, C, dx, vs, rfl, e1, cl, na, by omega, ?_⟩
  rw [pf]
  exact g.nx _ _ _ _ hn ((x1.trans x2).trans re_ext) ⟨o2.env.st re_ext, o2.mem.rewrite (show CellO X.K _ H2 (.i C (fs ++ [(fl, B)])) (.ins C dx (vs ++ [(fl, b)])) from ⟨rfl, FieldsV.snoc (B.st r1 x2) rr2⟩)⟩
/-- xs.append(e) -/
theorem we_append {o : Expr} {apos : Pos} (h : WE X o ρ m fun A m1 => ∃ q As1 m6 m7, A = val (.ref q) ∧ m1 = m6 ++ (q, .l As1) :: m7 ∧ WE X e ρ m1 fun B m2 => ∃ As m4 m5, m2 = m4 ++ (q, .l As) :: m5 ∧ As.length < 1000 ∧ Kt non (m4 ++ (q, .l (As ++ [B])) :: m5))
    (hbase : attributeBase o "append" X.env (eval o X.env) = eval o X.env := by rfl)
    (hfew : ((backTo pos (starEach (e :: []) X.env)).all (fun x => !x.1) && (backToKw pos (keywordEach [] X.env)).all (fun x => x.1.isSome)
      && decide ((e :: ([] : List Expr)).length + ([] : List Keyword).length + (if ([] : List Keyword).isEmpty then 0 else 1) < 30)) = true := by rfl)
    (hline : (apos.endLine == pos.line) = true := by rfl) (hs : starEach (e :: []) X.env = (false, eval e X.env) :: starEach [] X.env := by rfl) (hplain : (backTo pos (starEach [] X.env)).any (·.1) = false := by rfl) :
    WE X (.Call (.Attribute o "append" apos) [e] [] pos) ρ m Kt := by
  intro fr σ H hh Q g
  refine le_E (pe_bm PySem.F.plainAttrs_list PySem.F.slot_list_append PySem.F.type_list_append mt_append wpE_pe (pa_cons wpE_pe pa_nil hs) hbase hfew hline hs hplain) ?_
  refine h.to hh fun A m1 v H1 ⟨q, As1, m6, m7, ea, em1, h1⟩ x1 o1 r1 => ?_
  subst ea em1
  have r1' : v = V.ref q := r1
  subst r1'
  obtain ⟨u0, e0, rr0⟩ := o1.mem.at_ q (.l As1) (by simp)
  obtain ⟨vs0, rfl, rr0⟩ := rr0.lst
  refine ⟨.inl ⟨rfl, _, .inl (.inl e0)⟩, ?_⟩
  refine h1.to o1 fun B m2 b H2 ⟨As, m4, m5, em, hl, k⟩ x2 o2 r2 => ?_
  subst em
  obtain ⟨u, e1, rr⟩ := o2.mem.at_ q (.l As) (by simp)
  obtain ⟨vs, rfl, rr⟩ := rr.lst
  refine ⟨q, vs, b, rfl, rfl, e1, by rw [← rr.length]; exact small1000 (by omega), ?_⟩
  exact g _ _ _ _ k ((x1.trans x2).trans re_ext) ⟨o2.env.st re_ext, o2.mem.rewrite (show CellO X.K _ H2 (.l (As ++ [B])) (.lst (vs ++ [b])) from AllV.append rr (.cons r2 .nil))⟩ rfl
end
end AL
namespace AL
open PySem PySem.Spec L2
open PyProof.Rows hiding St
section
variable {P : Program} {w : World} {K : PySem.W.Frag} {mg : Str → Option Value} {base : Heap} {N : List Str} {sc : Scope} {df : Bool} {k : Nat} {X : Cx}
variable {ρ : Rho} {m : Mem} {Kt : KA} {pos : Pos} {e f : Expr} {E : EndsA}
/-- x += e of ints -/
theorem ws_augI (a : At P w K mg base N sc df k X) (i : Nat) {x : Str} {px : Pos} {n : Int} (hN : N[i]? = some x) (hl : sc.names.lookup x = some .local ∨ (df = true ∧ sc.names.lookup x = some .cell)) (hA : ρ[i]? = some (some (int n))) (h : WE X e ρ m fun B m1 => ∃ y, B = int y ∧ E.nx (ρ.set i (some (int (n + y)))) m1) : WS X (.AugAssign (.Name x px) .Add e pos) ρ m E := by
  intro fr σ H o D g
  refine le_S (ps_aug (i := i) (by rw [a.nm]; exact a.nd) (by rw [a.nm]; exact hN) ?_ wpE_pe ip_add ?_) ?_
  · unfold L2.Loc
    rw [a.sce]
    rcases hl with h | h
    · exact .inl h
    · exact .inr h.2
  · rcases hl with h | h
    · exact .inr (by rw [a.sce]; exact h)
    · exact .inl (a.fnc h.1 x)
  obtain ⟨v, e1, r⟩ := o.env.get hA
  refine ⟨v, e1, h.to o fun B m' b H' ⟨y, eb, q⟩ x1 o' r' => ?_⟩
  subst eb
  exact ⟨n, y, r, r', g.nx _ m' _ H' q x1 ⟨o'.env.set rfl i, o'.mem⟩⟩
end
end AL
namespace AL
open PySem PySem.Spec L2
open PyProof.Rows hiding St
section
variable {P : Program} {w : World} {K : PySem.W.Frag} {mg : Str → Option Value} {base : Heap} {N : List Str} {sc : Scope} {df : Bool} {k : Nat} {X : Cx}
variable {ρ : Rho} {m : Mem} {Kt : KA} {pos : Pos} {e f : Expr} {E : EndsA} {Kl : KL} {es : List Expr} {Kb : KT}
theorem op_eqI : OpR X (compareOp .Eq) (rI0 fun i j => .bl (decide (i = j))) := opB0 fun i j t u s Q E h => PyProof.Rows.eq_int (by rw [Bool.beq_eq_decide_eq]; exact h)
theorem op_neI : OpR X (compareOp .NotEq) (rI0 fun i j => .bl (!decide (i = j))) := opB0 fun i j t u s Q E h => PyProof.Rows.ne_int (by rw [bne, Bool.beq_eq_decide_eq]; exact h)
theorem hu_at (a : At P w K mg base N sc df k X) : X.A.units + 64 < cLine := by
  have := a.room.un
  omega
/-- what a value's type is -/
def HasTy (A : AV) (t : String) : Prop := ∀ (K : PySem.W.Frag) (M : List Addr) (H : Hp) (v : V), A.p K M H v → TyX K H v (.type t)
theorem ty_int {n : Int} : HasTy (int n) "int" := fun K M H v e => by rw [show v = V.int n from e]; exact .base (.int n)
theorem ty_bool {n : Bool} : HasTy (bool n) "bool" := fun K M H v e => by rw [show v = V.bl n from e]; exact .base (.bl n)
theorem ty_str {n : Str} : HasTy (str n) "str" := fun K M H v e => by rw [show v = V.str n from e]; exact .base (.str n)
theorem ty_non : HasTy non "NoneType" := fun K M H v e => by rw [show v = V.non from e]; exact .base .non
theorem ty_lst {As : List AV} : HasTy (lst As) "list" := fun K M H v ⟨p, vs, e, h, _⟩ => by rw [e]; exact .base (.lst h.1)
theorem ty_tup {As : List AV} : HasTy (tup As) "tuple" := fun K M H v ⟨p, vs, e, h, _⟩ => by
  subst e
  rcases h with ⟨h | ⟨o, h⟩, _⟩ | ⟨o, its, n, h1, h2, _⟩
  · exact .base (.tup h)
  · exact .fTuple h
  · exact .kTuple h1 h2
/-- isinstance(x, (c1, c2)): the tuple as it stands -/
def rIsiF (K : PySem.W.Frag) : List V → Hp → VK → Prop := fun xs H Q => ∃ (x : V) (tp : Addr) (oz : Obj) (cs : List V) (t : Value) (us : List Value) (b : Bool), xs = [x, .ref tp] ∧ H tp = some (.frz oz (.tup cs)) ∧ Paired ClsV cs us ∧ TyX K H x t ∧ PySem.W.kitAny K t us = some b ∧ Q (.bl b) H
theorem call_isiF {X : Cx} : CallR X (.builtin "isinstance") (rIsiF X.K) := by
  intro pins s σ H xs us Q I r h
  obtain ⟨x, tp, oz, cs, t, ws, b, rfl, hT, kc, ty, e, q⟩ := h
  obtain ⟨u1, u2, rfl, r1, r2⟩ := vals2 r
  cases (show u2 = Value.ref tp from r2)
  obtain ⟨PP, Z, p, hx⟩ := kit_of I r1 ty
  obtain ⟨_, _, its, rv, o, h1, h2, n, h3⟩ := (show ObjOk X.prog X.w H s.heap tp (.frz oz (.tup cs)) from I.hok tp _ hT)
  have e3 := ClsV.all kc rv
  subst e3
  obtain ⟨oc, od, dt, sl⟩ := o
  simp only at h2 h3
  subst h2 h3
  exact PySem.W.kia_tup Z I.kIn p h1 e hx fun tk => ⟨.bl b, H, I.tok tk, rfl, q⟩
variable (a : At P w K mg base N sc df k X)
include a in
theorem b_isinstance {p : Pos} {c : Expr} (hg : sc.names.lookup ("isinstance" : Str) = some .globalImplicit) (hm : mg "isinstance" = none)
    (h : WA X [e, c] ρ m fun As m1 => (∃ A t T b, As = [A, val (.ty T)] ∧ HasTy A t ∧ kitB t T = some b ∧ Kt (bool b) m1) ∨ ∃ A t T1 T2 b1 b2, As = [A, tup [val (.ty T1), val (.ty T2)]] ∧ HasTy A t ∧ kitB t T1 = some b1 ∧ kitB t T2 = some b2 ∧ Kt (bool (b1 || b2)) m1)
    (he : starEach (e :: [c]) X.env = (false, eval e X.env) :: starEach [c] X.env := by rfl) (hpl : (backTo pos (starEach [c] X.env)).any (·.1) = false := by rfl) : WE X (.Call (.Name "isinstance" p) [e, c] [] pos) ρ m Kt := by
  intro fr σ H o Q g
  have hgl := gl_of a hg
  have hmm : X.mg "isinstance" = none := by rw [a.mt]; exact hm
  have hc : CallR X (.builtin "isinstance") (fun xs H Q => rIsi X.K xs H Q ∨ rIsiT X.K xs H Q ∨ rIsiK X.K xs H Q ∨ rIsiF X.K xs H Q) := fun pins s σ H xs us Q I r q => q.elim (call_isi pins s σ H xs us Q I r) fun q => q.elim (call_isiT pins s σ H xs us Q I r) fun q => q.elim (call_isiK pins s σ H xs us Q I r) (call_isiF pins s σ H xs us Q I r)
  refine le_E (pe_callB hc hgl hmm (by decide +kernel) wpA_pa (by decide) (by decide) he hpl) ?_
  refine h fr σ H o _ fun As m1 vs H1 hh x1 o1 r1 => ?_
  rcases hh with ⟨A, t, T, b, rfl, ht, hk, q⟩ | ⟨A, t, T1, T2, b1, b2, rfl, ht, h1, h2, q⟩
  · cases r1 with
    | cons ra r1 =>
      cases r1 with
      | cons rb r1 =>
        cases r1
        refine .inl ⟨_, _, _, .type T, b, rfl, ?_, ht _ _ _ _ ra, kit_ty hk, g _ m1 _ H1 q x1 o1 rfl⟩
        rw [show _ = V.ty T from rb]
        exact .ty T
  · cases r1 with
    | cons ra r1 =>
      cases r1 with
      | cons rb r1 =>
        cases r1
        obtain ⟨p2, ts, rfl, ht2, rr⟩ := rb
        have et : ts = [V.ty T1, V.ty T2] := by
          cases rr with
          | cons rx rr =>
            cases rr with
            | cons ry rr =>
              cases rr
              rw [show _ = V.ty T1 from rx, show _ = V.ty T2 from ry]
        subst et
        have kk : PySem.W.kitAny X.K (.type t) [.type T1, .type T2] = some (b1 || b2) := kitAny_cons (kit_ty h1) (fun e => by subst e; exact kitAny_cons (kit_ty h2) (fun e => by subst e; exact kitAny_nil) (fun e => by subst e; rfl)) (fun e => by subst e; rfl)
        have fin := g _ m1 _ H1 q x1 o1 (show (bool (b1 || b2)).p X.K (Ms fr m1) H1 (.bl (b1 || b2)) from rfl)
        rcases ht2 with ⟨ht2 | ⟨oz, ht2⟩, _⟩ | ⟨ob, its, n, l1, l2, l3, l4, l5⟩
        · exact .inr (.inl ⟨_, p2, _, .type t, [.type T1, .type T2], _, rfl, ht2, .cons (.ty T1) (.cons (.ty T2) .nil), ht _ _ _ _ ra, kk, fin⟩)
        · exact .inr (.inr (.inr ⟨_, p2, oz, _, .type t, [.type T1, .type T2], _, rfl, ht2, .cons (.ty T1) (.cons (.ty T2) .nil), ht _ _ _ _ ra, kk, fin⟩))
        · have ei : its.toList = [.type T1, .type T2] := by
            generalize its.toList = l at l5
            cases l5 with
            | cons u1 l5 =>
              cases l5 with
              | cons u2 l5 =>
                cases l5
                rw [show _ = Value.type T1 from u1, show _ = Value.type T2 from u2]
          obtain ⟨cls, dd, data, sl⟩ := ob
          simp only at l2 l3
          subst l2 l3
          have e2 : its = ([.type T1, .type T2] : List Value).toArray := by rw [← ei]
          exact .inr (.inr (.inl ⟨_, p2, dd, [.type T1, .type T2], n, sl, .type t, _, rfl, by rw [l1, e2], ht _ _ _ _ ra, kk, fin⟩))
/-- the built-in names of a module -/
structure Blt (mg : Str → Option Value) : Prop where
  isi : mg "isinstance" = none
  len : mg "len" = none
  int : mg "int" = none
  bool : mg "bool" = none
  tuple : mg "tuple" = none
  list : mg "list" = none
  str : mg "str" = none
  all : mg "all" = none
  any : mg "any" = none
  abs : mg "abs" = none
  range : mg "range" = none
  zip : mg "zip" = none
  gcd : mg "gcd" = some (.builtin "math.gcd")
variable (Z : Blt mg)
include a Z in
theorem g_int {p : Pos} (hg : sc.names.lookup ("int" : Str) = some .globalImplicit) (h : Kt (val (.ty "int")) m) : WE X (.Name "int" p) ρ m Kt := we_bltn (v := .ty "int") (u := .type "int") a hg Z.int (by decide +kernel) rfl h
include a Z in
theorem g_bool {p : Pos} (hg : sc.names.lookup ("bool" : Str) = some .globalImplicit) (h : Kt (val (.ty "bool")) m) : WE X (.Name "bool" p) ρ m Kt := we_bltn (v := .ty "bool") (u := .type "bool") a hg Z.bool (by decide +kernel) rfl h
include a Z in
theorem g_tuple {p : Pos} (hg : sc.names.lookup ("tuple" : Str) = some .globalImplicit) (h : Kt (val (.ty "tuple")) m) : WE X (.Name "tuple" p) ρ m Kt := we_bltn (v := .ty "tuple") (u := .type "tuple") a hg Z.tuple (by decide +kernel) rfl h
include a Z in
theorem g_list {p : Pos} (hg : sc.names.lookup ("list" : Str) = some .globalImplicit) (h : Kt (val (.ty "list")) m) : WE X (.Name "list" p) ρ m Kt := we_bltn (v := .ty "list") (u := .type "list") a hg Z.list (by decide +kernel) rfl h
include a Z in
theorem b_len {p : Pos} (hg : sc.names.lookup ("len" : Str) = some .globalImplicit) (h : WA X [e] ρ m fun As m1 => ∃ A Bs, As = [A] ∧ IsSq m1 A Bs ∧ Kt (int Bs.length) m1) (he : starEach (e :: []) X.env = (false, eval e X.env) :: starEach [] X.env := by rfl) (hpl : (backTo pos (starEach [] X.env)).any (·.1) = false := by rfl) : WE X (.Call (.Name "len" p) [e] [] pos) ρ m Kt :=
  we_callB a call_len_seq abs_len hg Z.len PySem.boot_len h (by decide) (by decide) he hpl
include a Z in
theorem b_abs {p : Pos} (hg : sc.names.lookup ("abs" : Str) = some .globalImplicit) (h : WA X [e] ρ m fun As m1 => ∃ i, As = [int i] ∧ Kt (int (if i < 0 then -i else i)) m1) (he : starEach (e :: []) X.env = (false, eval e X.env) :: starEach [] X.env := by rfl) (hpl : (backTo pos (starEach [] X.env)).any (·.1) = false := by rfl) : WE X (.Call (.Name "abs" p) [e] [] pos) ρ m Kt :=
  we_callB a call_abs abs_abs hg Z.abs (by decide +kernel) h (by decide) (by decide) he hpl
include a Z in
theorem b_int {p : Pos} (hg : sc.names.lookup ("int" : Str) = some .globalImplicit) (h : WA X [e] ρ m fun As m1 => (∃ i, As = [int i] ∧ Kt (int i) m1) ∨ ∃ b, As = [bool b] ∧ Kt (int (if b then 1 else 0)) m1) (he : starEach (e :: []) X.env = (false, eval e X.env) :: starEach [] X.env := by rfl) (hpl : (backTo pos (starEach [] X.env)).any (·.1) = false := by rfl) : WE X (.Call (.Name "int" p) [e] [] pos) ρ m Kt :=
  we_callTy a call_int1 abs_int hg Z.int (by decide +kernel) h (by decide) (by decide) he hpl
include a Z in
theorem b_gcd {p : Pos} (hg : sc.names.lookup ("gcd" : Str) = some .globalImplicit) (h : WA X [e, f] ρ m fun As m1 => ∃ i j, As = [int i, int j] ∧ Kt (int ((Nat.gcd i.natAbs j.natAbs : Nat) : Int)) m1) (he : starEach (e :: [f]) X.env = (false, eval e X.env) :: starEach [f] X.env := by rfl) (hpl : (backTo pos (starEach [f] X.env)).any (·.1) = false := by rfl) : WE X (.Call (.Name "gcd" p) [e, f] [] pos) ρ m Kt :=
  we_callG a cr_gcd abs_gcd hg Z.gcd h (by decide) he hpl
include a Z in
theorem b_all {p : Pos} (hg : sc.names.lookup ("all" : Str) = some .globalImplicit) (h : WA X [e] ρ m fun As m1 => ∃ bs : List Bool, As = [lst (bs.map bool)] ∧ Kt (AL.bool (bs.all id)) m1) (he : starEach (e :: []) X.env = (false, eval e X.env) :: starEach [] X.env := by rfl) (hpl : (backTo pos (starEach [] X.env)).any (·.1) = false := by rfl) : WE X (.Call (.Name "all" p) [e] [] pos) ρ m Kt :=
  we_callB a (cr_all a.calm) abs_all hg Z.all (by decide +kernel) h (by decide) (by decide) he hpl
include a Z in
theorem b_any {p : Pos} (hg : sc.names.lookup ("any" : Str) = some .globalImplicit) (h : WA X [e] ρ m fun As m1 => ∃ bs : List Bool, As = [lst (bs.map bool)] ∧ Kt (AL.bool (bs.any id)) m1) (he : starEach (e :: []) X.env = (false, eval e X.env) :: starEach [] X.env := by rfl) (hpl : (backTo pos (starEach [] X.env)).any (·.1) = false := by rfl) : WE X (.Call (.Name "any" p) [e] [] pos) ρ m Kt :=
  we_callB a (cr_any a.calm) abs_any hg Z.any (by decide +kernel) h (by decide) (by decide) he hpl
include a Z in
theorem b_tuple {p : Pos} (hg : sc.names.lookup ("tuple" : Str) = some .globalImplicit) (h : WA X [e] ρ m fun As m1 => (∃ A Bs, As = [A] ∧ IsLs m1 A Bs ∧ Kt (tup Bs) m1) ∨ ∃ Bs, As = [tup Bs] ∧ Kt (tup Bs) m1) (he : starEach (e :: []) X.env = (false, eval e X.env) :: starEach [] X.env := by rfl) (hpl : (backTo pos (starEach [] X.env)).any (·.1) = false := by rfl) : WE X (.Call (.Name "tuple" p) [e] [] pos) ρ m Kt :=
  we_callTy a call_tuple_of abs_tupleOf hg Z.tuple (by decide +kernel) h (by decide) (by decide) he hpl
end
end AL
namespace HB
open PySem PySem.Spec L2 AL
open PyProof.Rows hiding St
def topS (i : Nat) : Stmt := PySem.Challenge.pw_handlebends_k31_any_values_as_places.main.body.getD i (.Pass ⟨0, 0, 0, 0⟩)
abbrev Q2 := Int × Int
abbrev qv (q : Q2) : AV := tup [AL.int q.1, AL.int q.2]
inductive IsV : AV → Q2 → Prop
  | int (n : Int) : IsV (AL.int n) (n, 1)
  | pr (p q : Int) (h : 1 ≤ q) (g : Nat.gcd p.natAbs q.natAbs = 1) : IsV (qv (p, q)) (p, q)
section
variable {P : Program} {w : World} {K : PySem.W.Frag} {mg : Str → Option Value} {base : Heap} (Z : Blt mg)
/-! ### is_whole, is_sequence -/
abbrev tys : List String := ["int", "bool", "tuple", "list", "str", "NoneType"]
def C_is_whole : CT := fun As m Kt => ∃ A t, As = [A] ∧ HasTy A t ∧ t ∈ tys ∧ Kt (AL.bool (t == "int")) m
abbrev s_is_whole : Stmt := topS 12
abbrev N_is_whole : List Str := ["thing"]
theorem sc_is_whole : FnScope N_is_whole ["thing"] (defScope s_is_whole) := ⟨rfl, rfl, rfl, by decide +kernel, rfl, by decide +kernel, by decide +kernel⟩
include Z in
theorem F_is_whole {f : Addr} {fd : FuncData} (F : Fun K "is_whole" "is_whole" s_is_whole f fd) (hm : mg "is_whole" = some (.ref f)) (hb : Binds K fd ["thing"] []) : FnC P w K mg base 1 "is_whole" C_is_whole := by
  refine fnC F sc_is_whole hm hb (fun As m Kt ⟨A, t, h, _⟩ => by rw [h]; rfl) fun X a As m Kt ⟨A, t, e1, ht, hin, q⟩ => ?_
  subst e1
  refine wss_cons ?_
  refine ws_ret ?_
  refine we_and ?_
  refine b_isinstance a rfl Z.isi ?_
  refine wa_cons ?_
  refine we_name a 0 rfl (.inl rfl) rfl ?_
  refine wa_cons ?_
  refine g_int a Z rfl ?_
  refine wa_nil ?_
  have two : ∀ {b1 b2 : Bool}, kitB t "int" = some b1 → kitB t "bool" = some b2 → (b1 && !b2) = (t == "int") → ∃ b1 b2, kitB t "int" = some b1 ∧ kitB t "bool" = some b2 ∧ (b1 && !b2) = (t == "int") := fun h1 h2 h3 => ⟨_, _, h1, h2, h3⟩
  obtain ⟨b1, b2, h1, h2, h3⟩ : ∃ b1 b2, kitB t "int" = some b1 ∧ kitB t "bool" = some b2 ∧ (b1 && !b2) = (t == "int") := by
    simp only [List.mem_cons, List.not_mem_nil, or_false] at hin
    rcases hin with rfl | rfl | rfl | rfl | rfl | rfl
    · exact ⟨true, false, by decide +kernel, by decide +kernel, by decide⟩
    · exact ⟨true, true, by decide +kernel, by decide +kernel, by decide⟩
    · exact ⟨false, false, by decide +kernel, by decide +kernel, by decide⟩
    · exact ⟨false, false, by decide +kernel, by decide +kernel, by decide⟩
    · exact ⟨false, false, by decide +kernel, by decide +kernel, by decide⟩
    · exact ⟨false, false, by decide +kernel, by decide +kernel, by decide⟩
  refine .inl ⟨_, _, _, _, rfl, ht, h1, ?_⟩
  refine ⟨_, rfl, ?_⟩
  refine br (fun e => ?_) (fun e => ?_)
  · refine we_one ?_
    refine we_not ?_
    refine b_isinstance a rfl Z.isi ?_
    refine wa_cons ?_
    refine we_name a 0 rfl (.inl rfl) rfl ?_
    refine wa_cons ?_
    refine g_bool a Z rfl ?_
    refine wa_nil ?_
    refine .inl ⟨_, _, _, _, rfl, ht, h2, ?_⟩
    refine ⟨_, rfl, ?_⟩
    rw [e, Bool.true_and] at h3
    rw [h3]
    exact bodyE.ret q
  · rw [e, Bool.false_and] at h3
    rw [h3]
    exact bodyE.ret q
end
end HB
namespace HB
open PySem PySem.Spec L2 AL
open PyProof.Rows hiding St
section
variable {P : Program} {w : World} {K : PySem.W.Frag} {mg : Str → Option Value} {base : Heap} (Z : Blt mg)
theorem tg2 {N : List Str} {sc : Scope} {df : Bool} {j1 j2 : Nat × Str × Pos} (h1 : N[j1.1]? = some j1.2.1 ∧ (sc.names.lookup j1.2.1 = some .local ∨ (df = true ∧ sc.names.lookup j1.2.1 = some .cell))) (h2 : N[j2.1]? = some j2.2.1 ∧ (sc.names.lookup j2.2.1 = some .local ∨ (df = true ∧ sc.names.lookup j2.2.1 = some .cell))) :
    ∀ j ∈ [j1, j2], N[j.1]? = some j.2.1 ∧ (sc.names.lookup j.2.1 = some .local ∨ (df = true ∧ sc.names.lookup j.2.1 = some .cell)) := fun j hj => by
  simp only [List.mem_cons, List.not_mem_nil, or_false] at hj
  rcases hj with rfl | rfl
  · exact h1
  · exact h2
def C_is_sequence : CT := fun As m Kt => ∃ A t, As = [A] ∧ HasTy A t ∧ t ∈ tys ∧ Kt (AL.bool (t == "list" || t == "tuple")) m
abbrev s_is_sequence : Stmt := topS 13
theorem sc_is_sequence : FnScope ["thing"] ["thing"] (defScope s_is_sequence) := ⟨rfl, rfl, rfl, by decide +kernel, rfl, by decide +kernel, by decide +kernel⟩
include Z in
theorem F_is_sequence {f : Addr} {fd : FuncData} (F : Fun K "is_sequence" "is_sequence" s_is_sequence f fd) (hm : mg "is_sequence" = some (.ref f)) (hb : Binds K fd ["thing"] []) : FnC P w K mg base 1 "is_sequence" C_is_sequence := by
  refine fnC F sc_is_sequence hm hb (fun As m Kt ⟨A, t, h, _⟩ => by rw [h]; rfl) fun X a As m Kt ⟨A, t, e1, ht, hin, q⟩ => ?_
  subst e1
  refine wss_cons ?_
  refine ws_ret ?_
  refine b_isinstance a rfl Z.isi ?_
  refine wa_cons ?_
  refine we_name a 0 rfl (.inl rfl) rfl ?_
  refine wa_cons ?_
  refine we_tup ?_
  refine wa_cons ?_
  refine g_list a Z rfl ?_
  refine wa_cons ?_
  refine g_tuple a Z rfl ?_
  refine wa_nil ?_
  refine ⟨by decide, ?_⟩
  refine wa_nil ?_
  obtain ⟨b1, b2, h1, h2, h3⟩ : ∃ b1 b2, kitB t "list" = some b1 ∧ kitB t "tuple" = some b2 ∧ (b1 || b2) = (t == "list" || t == "tuple") := by
    simp only [List.mem_cons, List.not_mem_nil, or_false] at hin
    rcases hin with rfl | rfl | rfl | rfl | rfl | rfl
    · exact ⟨false, false, by decide +kernel, by decide +kernel, by decide⟩
    · exact ⟨false, false, by decide +kernel, by decide +kernel, by decide⟩
    · exact ⟨false, true, by decide +kernel, by decide +kernel, by decide⟩
    · exact ⟨true, false, by decide +kernel, by decide +kernel, by decide⟩
    · exact ⟨false, false, by decide +kernel, by decide +kernel, by decide⟩
    · exact ⟨false, false, by decide +kernel, by decide +kernel, by decide⟩
  refine .inr ⟨_, _, _, _, _, _, rfl, ht, h1, h2, ?_⟩
  rw [h3]
  exact bodyE.ret q
/-! ### is_value -/
def C_is_value : CT := fun As m Kt => ∃ A q, As = [A] ∧ IsV A q ∧ Kt (AL.bool true) m
abbrev s_is_value : Stmt := topS 14
theorem sc_is_value : FnScope ["thing", "p", "q"] ["thing"] (defScope s_is_value) := ⟨rfl, rfl, rfl, by decide +kernel, rfl, by decide +kernel, by decide +kernel⟩
include Z in
theorem F_is_value (G : FnC P w K mg base 1 "is_whole" C_is_whole) {f : Addr} {fd : FuncData} (F : Fun K "is_value" "is_value" s_is_value f fd) (hm : mg "is_value" = some (.ref f)) (hb : Binds K fd ["thing"] []) : FnC P w K mg base 2 "is_value" C_is_value := by
  refine fnC F sc_is_value hm hb (fun As m Kt ⟨A, t, h, _⟩ => by rw [h]; rfl) fun X a As m Kt ⟨A, t, e1, ht, q⟩ => ?_
  subst e1
  cases ht with
  | int n =>
    refine wss_cons ?_
    refine ws_if ?_
    refine wt_val ?_
    refine we_call a G (by decide) rfl ?_
    refine wa_cons ?_
    refine we_name a 0 rfl (.inl rfl) rfl ?_
    refine wa_nil ?_
    refine ⟨[], _, rfl, _, _, rfl, ty_int, by decide, ?_⟩
    refine ⟨_, rfl, ?_⟩
    refine brT (by decide) ?_
    refine wss_cons ?_
    refine ws_ret ?_
    refine we_bool ?_
    exact bodyE.ret q
  | pr p r h g =>
    refine wss_cons ?_
    refine ws_if ?_
    refine wt_val ?_
    refine we_call a G (by decide) rfl ?_
    refine wa_cons ?_
    refine we_name a 0 rfl (.inl rfl) rfl ?_
    refine wa_nil ?_
    refine ⟨[], _, rfl, _, _, rfl, ty_tup, by decide, ?_⟩
    refine ⟨_, rfl, ?_⟩
    refine brF (by decide) ?_
    refine wss_nil ?_
    refine wss_cons ?_
    refine ws_if ?_
    refine wt_of ?_
    refine ww_or ?_
    refine wt_not ?_
    refine wt_val ?_
    refine b_isinstance a rfl Z.isi ?_
    refine wa_cons ?_
    refine we_name a 0 rfl (.inl rfl) rfl ?_
    refine wa_cons ?_
    refine g_tuple a Z rfl ?_
    refine wa_nil ?_
    refine .inl ⟨_, _, _, true, rfl, ty_tup, by decide +kernel, ?_⟩
    refine ⟨_, rfl, ?_⟩
    refine brF (by decide) ?_
    refine ww_or1 ?_
    refine wt_icmp op_neI rfl ?_
    refine b_len a Z rfl ?_
    refine wa_cons ?_
    refine we_name a 0 rfl (.inl rfl) rfl ?_
    refine wa_nil ?_
    refine ⟨_, _, rfl, isSq_tup, ?_⟩
    refine we_int ?_
    refine ⟨_, _, rfl, rfl, ?_⟩
    refine brF rfl ?_
    refine wss_nil ?_
    refine wss_cons ?_
    refine ws_asg ?_
    refine we_name a 0 rfl (.inl rfl) rfl ?_
    refine wg_tup a [(1, "p", _), (2, "q", _)] rfl rfl rfl (tg2 ⟨rfl, .inl rfl⟩ ⟨rfl, .inl rfl⟩) rfl rfl ?_
    refine wss_cons ?_
    refine ws_ret ?_
    refine we_and ?_
    refine we_call a G (by decide) rfl ?_
    refine wa_cons ?_
    refine we_name a 1 rfl (.inl rfl) rfl ?_
    refine wa_nil ?_
    refine ⟨[], _, rfl, _, _, rfl, ty_int, by decide, ?_⟩
    refine ⟨_, rfl, ?_⟩
    refine brT (by decide) ?_
    refine we_and ?_
    refine we_call a G (by decide) rfl ?_
    refine wa_cons ?_
    refine we_name a 2 rfl (.inl rfl) rfl ?_
    refine wa_nil ?_
    refine ⟨[], _, rfl, _, _, rfl, ty_int, by decide, ?_⟩
    refine ⟨_, rfl, ?_⟩
    refine brT (by decide) ?_
    refine we_and ?_
    refine we_icmp op_ge rfl ?_
    refine we_name a 2 rfl (.inl rfl) rfl ?_
    refine we_int ?_
    refine ⟨_, _, rfl, rfl, ?_⟩
    refine ⟨_, rfl, ?_⟩
    refine brT (decide_eq_true h) ?_
    refine we_one ?_
    refine we_icmp op_eqI rfl ?_
    refine b_gcd a Z rfl ?_
    refine wa_cons ?_
    refine we_name a 1 rfl (.inl rfl) rfl ?_
    refine wa_cons ?_
    refine we_name a 2 rfl (.inl rfl) rfl ?_
    refine wa_nil ?_
    refine ⟨_, _, rfl, ?_⟩
    refine we_int ?_
    refine ⟨_, _, rfl, rfl, ?_⟩
    rw [g]
    exact bodyE.ret q
end
end HB
namespace HB
open PySem PySem.Spec L2 AL
open PyProof.Rows hiding St
/-! ### fractions -/
def gcdI (p q : Int) : Int := (Nat.gcd p.natAbs q.natAbs : Nat)
def ratioM (p q : Int) : Q2 := (p / gcdI p q, q / gcdI p q)
def OkR (q : Int) : Prop := q ≠ 0 ∧ q.natAbs < 2 ^ 8999
theorem okR_div {p q : Int} (h : OkR q) : CDivW p (gcdI p q) ∧ CDivW q (gcdI p q) := by
  have h0 : 0 < Nat.gcd p.natAbs q.natAbs := Nat.gcd_pos_of_pos_right _ (by have := h.1; omega)
  have h1 : Nat.gcd p.natAbs q.natAbs ≤ q.natAbs := Nat.gcd_le_right _ (by have := h.1; omega)
  have h2 : (gcdI p q).natAbs < 2 ^ 8999 := by unfold gcdI; rw [Int.natAbs_natCast]; exact Nat.lt_of_le_of_lt h1 h.2
  exact ⟨wide_div (by unfold gcdI; omega) h2 (by decide) (by decide), wide_div (by unfold gcdI; omega) h2 (by decide) (by decide)⟩
abbrev B4 : Nat := 2 ^ 4000
def Sm (x : Int) : Prop := x.natAbs < B4
structure SmQ (a : Q2) : Prop where
  n : Sm a.1
  d : Sm a.2
  z : a.2 ≠ 0
theorem sm_mul {x y : Int} (hx : Sm x) (hy : Sm y) : CMulW x y := wide_mul (a := 4000) (b := 4000) hx hy (by decide) (by decide) (by decide)
theorem sm_okR {x y : Int} (hx : Sm x) (hy : Sm y) (h1 : x ≠ 0) (h2 : y ≠ 0) : OkR (x * y) :=
  ⟨Int.mul_ne_zero h1 h2, Nat.lt_of_lt_of_le (wide_lt hx hy) (Nat.pow_le_pow_right (by decide) (by decide))⟩
def addM (a b : Q2) : Q2 := ratioM (a.1 * b.2 + b.1 * a.2) (a.2 * b.2)
def subM (a b : Q2) : Q2 := ratioM (a.1 * b.2 - b.1 * a.2) (a.2 * b.2)
def mulM (a b : Q2) : Q2 := ratioM (a.1 * b.1) (a.2 * b.2)
def divM (a b : Q2) : Q2 := ratioM (a.1 * b.2) (a.2 * b.1)
def lessM (a b : Q2) : Bool := decide (a.1 * b.2 < b.1 * a.2)
section
variable {P : Program} {w : World} {K : PySem.W.Frag} {mg : Str → Option Value} {base : Heap} (Z : Blt mg)
variable {N : List Str} {sc : Scope} {df : Bool} {k : Nat} {X : Cx} {ρ : Rho} {m : Mem} {Kt : KA} {pos : Pos}
theorem ix0 (a : At P w K mg base N sc df k X) (i : Nat) {x : Str} {j} {p1 p2 : Pos} {q : Q2} (hN : N[i]? = some x) (hv : sc.names.lookup x = some .local ∨ sc.names.lookup x = some .cell ∨ sc.names.lookup x = some .free) (hA : ρ[i]? = some (some (qv q))) (h : Kt (AL.int q.1) m)
    (hd : (x == ("__debug__" : Str)) = false := by decide) (hcd : (x == ("__classdict__" : Str)) = false := by decide) : WE X (.Subscript (.Name x p1) (.Constant (.int 0) j p2) pos) ρ m Kt :=
  we_ix (we_name a i hN hv hA (we_int ⟨_, _, _, isSq_tup, rfl, rfl, h⟩) hd hcd) (fun _ _ => rfl)
theorem ix1 (a : At P w K mg base N sc df k X) (i : Nat) {x : Str} {j} {p1 p2 : Pos} {q : Q2} (hN : N[i]? = some x) (hv : sc.names.lookup x = some .local ∨ sc.names.lookup x = some .cell ∨ sc.names.lookup x = some .free) (hA : ρ[i]? = some (some (qv q))) (h : Kt (AL.int q.2) m)
    (hd : (x == ("__debug__" : Str)) = false := by decide) (hcd : (x == ("__classdict__" : Str)) = false := by decide) : WE X (.Subscript (.Name x p1) (.Constant (.int 1) j p2) pos) ρ m Kt :=
  we_ix (we_name a i hN hv hA (we_int ⟨_, _, _, isSq_tup, rfl, rfl, h⟩) hd hcd) (fun _ _ => rfl)
def C_ratio : CT := fun As m Kt => ∃ p q, As = [AL.int p, AL.int q] ∧ OkR q ∧ Kt (qv (ratioM p q)) m
abbrev s_ratio : Stmt := topS 18
theorem sc_ratio : FnScope ["p", "q", "shared"] ["p", "q"] (defScope s_ratio) := ⟨rfl, rfl, rfl, by decide +kernel, rfl, by decide +kernel, by decide +kernel⟩
include Z in
theorem F_ratio {f : Addr} {fd : FuncData} (F : Fun K "ratio" "ratio" s_ratio f fd) (hm : mg "ratio" = some (.ref f)) (hb : Binds K fd ["p", "q"] []) : FnC P w K mg base 1 "ratio" C_ratio := by
  refine fnC F sc_ratio hm hb (fun As m Kt ⟨p, q, h, _⟩ => by rw [h]; rfl) fun X a As m Kt ⟨p, q, e1, ok, k⟩ => ?_
  subst e1
  refine wss_cons ?_
  refine ws_set a 2 rfl (.inl rfl) ?_
  refine b_gcd a Z rfl ?_
  refine wa_cons ?_
  refine we_name a 0 rfl (.inl rfl) rfl ?_
  refine wa_cons ?_
  refine we_name a 1 rfl (.inl rfl) rfl ?_
  refine wa_nil ?_
  refine ⟨_, _, rfl, ?_⟩
  refine wss_cons ?_
  refine ws_ret ?_
  refine we_tup ?_
  refine wa_cons ?_
  refine we_fdiv ?_
  refine we_name a 0 rfl (.inl rfl) rfl ?_
  refine we_name a 2 rfl (.inl rfl) rfl ?_
  refine ⟨_, _, rfl, rfl, (okR_div ok).1, ?_⟩
  refine wa_cons ?_
  refine we_fdiv ?_
  refine we_name a 1 rfl (.inl rfl) rfl ?_
  refine we_name a 2 rfl (.inl rfl) rfl ?_
  refine ⟨_, _, rfl, rfl, (okR_div ok).2, ?_⟩
  refine wa_nil ?_
  refine ⟨(by decide : 2 ≤ 1000), ?_⟩
  exact bodyE.ret k
/-- the four operations -/
def C_op (f : Q2 → Q2 → Q2) : CT := fun As m Kt => ∃ x y, As = [qv x, qv y] ∧ SmQ x ∧ SmQ y ∧ Kt (qv (f x y)) m
def C_div : CT := fun As m Kt => ∃ x y, As = [qv x, qv y] ∧ SmQ x ∧ SmQ y ∧ y.1 ≠ 0 ∧ Kt (qv (divM x y)) m
abbrev s_added : Stmt := topS 19
abbrev s_taken : Stmt := topS 20
abbrev s_multiplied : Stmt := topS 21
abbrev s_divided : Stmt := topS 22
theorem sc_added : FnScope ["a", "b"] ["a", "b"] (defScope s_added) := ⟨rfl, rfl, rfl, by decide +kernel, rfl, by decide +kernel, by decide +kernel⟩
theorem sc_taken : FnScope ["a", "b"] ["a", "b"] (defScope s_taken) := ⟨rfl, rfl, rfl, by decide +kernel, rfl, by decide +kernel, by decide +kernel⟩
theorem sc_multiplied : FnScope ["a", "b"] ["a", "b"] (defScope s_multiplied) := ⟨rfl, rfl, rfl, by decide +kernel, rfl, by decide +kernel, by decide +kernel⟩
theorem sc_divided : FnScope ["a", "b"] ["a", "b"] (defScope s_divided) := ⟨rfl, rfl, rfl, by decide +kernel, rfl, by decide +kernel, by decide +kernel⟩
variable (R : FnC P w K mg base 1 "ratio" C_ratio)
include R in
theorem F_added {f : Addr} {fd : FuncData} (F : Fun K "added" "added" s_added f fd) (hm : mg "added" = some (.ref f)) (hb : Binds K fd ["a", "b"] []) : FnC P w K mg base 2 "added" (C_op addM) := by
  refine fnC F sc_added hm hb (fun As m Kt ⟨p, q, h, _⟩ => by rw [h]; rfl) fun X a As m Kt ⟨x, y, e1, hx, hy, k⟩ => ?_
  subst e1
  refine wss_cons ?_
  refine ws_ret ?_
  refine we_call a R (by decide) rfl ?_
  refine wa_cons ?_
  refine we_add ?_
  refine we_mul ?_
  refine ix0 a 0 rfl (.inl rfl) rfl ?_
  refine ix1 a 1 rfl (.inl rfl) rfl ?_
  refine ⟨_, _, rfl, rfl, sm_mul hx.n hy.d, ?_⟩
  refine we_mul ?_
  refine ix0 a 1 rfl (.inl rfl) rfl ?_
  refine ix1 a 0 rfl (.inl rfl) rfl ?_
  refine ⟨_, _, rfl, rfl, sm_mul hy.n hx.d, ?_⟩
  refine ⟨_, _, rfl, rfl, ?_⟩
  refine wa_cons ?_
  refine we_mul ?_
  refine ix1 a 0 rfl (.inl rfl) rfl ?_
  refine ix1 a 1 rfl (.inl rfl) rfl ?_
  refine ⟨_, _, rfl, rfl, sm_mul hx.d hy.d, ?_⟩
  refine wa_nil ?_
  refine ⟨[], m, rfl, _, _, rfl, sm_okR hx.d hy.d hx.z hy.z, ?_⟩
  exact bodyE.ret k
include R in
theorem F_taken {f : Addr} {fd : FuncData} (F : Fun K "taken" "taken" s_taken f fd) (hm : mg "taken" = some (.ref f)) (hb : Binds K fd ["a", "b"] []) : FnC P w K mg base 2 "taken" (C_op subM) := by
  refine fnC F sc_taken hm hb (fun As m Kt ⟨p, q, h, _⟩ => by rw [h]; rfl) fun X a As m Kt ⟨x, y, e1, hx, hy, k⟩ => ?_
  subst e1
  refine wss_cons ?_
  refine ws_ret ?_
  refine we_call a R (by decide) rfl ?_
  refine wa_cons ?_
  refine we_sub ?_
  refine we_mul ?_
  refine ix0 a 0 rfl (.inl rfl) rfl ?_
  refine ix1 a 1 rfl (.inl rfl) rfl ?_
  refine ⟨_, _, rfl, rfl, sm_mul hx.n hy.d, ?_⟩
  refine we_mul ?_
  refine ix0 a 1 rfl (.inl rfl) rfl ?_
  refine ix1 a 0 rfl (.inl rfl) rfl ?_
  refine ⟨_, _, rfl, rfl, sm_mul hy.n hx.d, ?_⟩
  refine ⟨_, _, rfl, rfl, ?_⟩
  refine wa_cons ?_
  refine we_mul ?_
  refine ix1 a 0 rfl (.inl rfl) rfl ?_
  refine ix1 a 1 rfl (.inl rfl) rfl ?_
  refine ⟨_, _, rfl, rfl, sm_mul hx.d hy.d, ?_⟩
  refine wa_nil ?_
  refine ⟨[], m, rfl, _, _, rfl, sm_okR hx.d hy.d hx.z hy.z, ?_⟩
  exact bodyE.ret k
include R in
theorem F_multiplied {f : Addr} {fd : FuncData} (F : Fun K "multiplied" "multiplied" s_multiplied f fd) (hm : mg "multiplied" = some (.ref f)) (hb : Binds K fd ["a", "b"] []) : FnC P w K mg base 2 "multiplied" (C_op mulM) := by
  refine fnC F sc_multiplied hm hb (fun As m Kt ⟨p, q, h, _⟩ => by rw [h]; rfl) fun X a As m Kt ⟨x, y, e1, hx, hy, k⟩ => ?_
  subst e1
  refine wss_cons ?_
  refine ws_ret ?_
  refine we_call a R (by decide) rfl ?_
  refine wa_cons ?_
  refine we_mul ?_
  refine ix0 a 0 rfl (.inl rfl) rfl ?_
  refine ix0 a 1 rfl (.inl rfl) rfl ?_
  refine ⟨_, _, rfl, rfl, sm_mul hx.n hy.n, ?_⟩
  refine wa_cons ?_
  refine we_mul ?_
  refine ix1 a 0 rfl (.inl rfl) rfl ?_
  refine ix1 a 1 rfl (.inl rfl) rfl ?_
  refine ⟨_, _, rfl, rfl, sm_mul hx.d hy.d, ?_⟩
  refine wa_nil ?_
  refine ⟨[], m, rfl, _, _, rfl, sm_okR hx.d hy.d hx.z hy.z, ?_⟩
  exact bodyE.ret k
include R in
theorem F_divided {f : Addr} {fd : FuncData} (F : Fun K "divided" "divided" s_divided f fd) (hm : mg "divided" = some (.ref f)) (hb : Binds K fd ["a", "b"] []) : FnC P w K mg base 2 "divided" C_div := by
  refine fnC F sc_divided hm hb (fun As m Kt ⟨p, q, h, _⟩ => by rw [h]; rfl) fun X a As m Kt ⟨x, y, e1, hx, hy, hz, k⟩ => ?_
  subst e1
  refine wss_cons ?_
  refine ws_ret ?_
  refine we_call a R (by decide) rfl ?_
  refine wa_cons ?_
  refine we_mul ?_
  refine ix0 a 0 rfl (.inl rfl) rfl ?_
  refine ix1 a 1 rfl (.inl rfl) rfl ?_
  refine ⟨_, _, rfl, rfl, sm_mul hx.n hy.d, ?_⟩
  refine wa_cons ?_
  refine we_mul ?_
  refine ix1 a 0 rfl (.inl rfl) rfl ?_
  refine ix0 a 1 rfl (.inl rfl) rfl ?_
  refine ⟨_, _, rfl, rfl, sm_mul hx.d hy.n, ?_⟩
  refine wa_nil ?_
  refine ⟨[], m, rfl, _, _, rfl, sm_okR hx.d hy.n hx.z hz, ?_⟩
  exact bodyE.ret k
def C_less : CT := fun As m Kt => ∃ x y, As = [qv x, qv y] ∧ SmQ x ∧ SmQ y ∧ Kt (AL.bool (lessM x y)) m
abbrev s_is_less : Stmt := topS 25
theorem sc_is_less : FnScope ["a", "b"] ["a", "b"] (defScope s_is_less) := ⟨rfl, rfl, rfl, by decide +kernel, rfl, by decide +kernel, by decide +kernel⟩
theorem F_is_less {f : Addr} {fd : FuncData} (F : Fun K "is_less" "is_less" s_is_less f fd) (hm : mg "is_less" = some (.ref f)) (hb : Binds K fd ["a", "b"] []) : FnC P w K mg base 1 "is_less" C_less := by
  refine fnC F sc_is_less hm hb (fun As m Kt ⟨p, q, h, _⟩ => by rw [h]; rfl) fun X a As m Kt ⟨x, y, e1, hx, hy, k⟩ => ?_
  subst e1
  refine wss_cons ?_
  refine ws_ret ?_
  refine we_icmp op_lt rfl ?_
  refine we_mul ?_
  refine ix0 a 0 rfl (.inl rfl) rfl ?_
  refine ix1 a 1 rfl (.inl rfl) rfl ?_
  refine ⟨_, _, rfl, rfl, sm_mul hx.n hy.d, ?_⟩
  refine we_mul ?_
  refine ix0 a 1 rfl (.inl rfl) rfl ?_
  refine ix1 a 0 rfl (.inl rfl) rfl ?_
  refine ⟨_, _, rfl, rfl, sm_mul hy.n hx.d, ?_⟩
  refine ⟨_, _, rfl, rfl, ?_⟩
  exact bodyE.ret k
/-! ### pair, pairs, are_values -/
def C_pair : CT := fun As m Kt => ∃ A q, As = [A] ∧ IsV A q ∧ Kt (qv q) m
abbrev s_pair : Stmt := topS 16
theorem sc_pair : FnScope ["worth"] ["worth"] (defScope s_pair) := ⟨rfl, rfl, rfl, by decide +kernel, rfl, by decide +kernel, by decide +kernel⟩
include Z in
theorem F_pair {f : Addr} {fd : FuncData} (F : Fun K "pair" "pair" s_pair f fd) (hm : mg "pair" = some (.ref f)) (hb : Binds K fd ["worth"] []) : FnC P w K mg base 1 "pair" C_pair := by
  refine fnC F sc_pair hm hb (fun As m Kt ⟨p, q, h, _⟩ => by rw [h]; rfl) fun X a As m Kt ⟨A, q, e1, hq, k⟩ => ?_
  subst e1
  cases hq with
  | int n =>
    refine wss_cons ?_
    refine ws_ret ?_
    refine we_ifexp ?_
    refine wt_val ?_
    refine b_isinstance a rfl Z.isi ?_
    refine wa_cons ?_
    refine we_name a 0 rfl (.inl rfl) rfl ?_
    refine wa_cons ?_
    refine g_tuple a Z rfl ?_
    refine wa_nil ?_
    refine .inl ⟨_, _, _, false, rfl, ty_int, by decide +kernel, ?_⟩
    refine ⟨_, rfl, ?_⟩
    refine brF rfl ?_
    refine we_tup ?_
    refine wa_cons ?_
    refine we_name a 0 rfl (.inl rfl) rfl ?_
    refine wa_cons ?_
    refine we_int ?_
    refine wa_nil ?_
    refine ⟨(by decide : 2 ≤ 1000), ?_⟩
    exact bodyE.ret k
  | pr p r h g =>
    refine wss_cons ?_
    refine ws_ret ?_
    refine we_ifexp ?_
    refine wt_val ?_
    refine b_isinstance a rfl Z.isi ?_
    refine wa_cons ?_
    refine we_name a 0 rfl (.inl rfl) rfl ?_
    refine wa_cons ?_
    refine g_tuple a Z rfl ?_
    refine wa_nil ?_
    refine .inl ⟨_, _, _, true, rfl, ty_tup, by decide +kernel, ?_⟩
    refine ⟨_, rfl, ?_⟩
    refine brT rfl ?_
    refine we_name a 0 rfl (.inl rfl) rfl ?_
    exact bodyE.ret k
abbrev IsVs : List AV → List Q2 → Prop := Paired IsV
theorem IsVs.get {Bs : List AV} {qs : List Q2} (h : IsVs Bs qs) : ∀ {i : Nat} {A : AV}, Bs[i]? = some A → ∃ q, qs[i]? = some q ∧ IsV A q := by
  induction h with
  | nil => intro i A e; simp at e
  | cons r t ih =>
    intro i A e
    cases i with
    | zero => simp at e; subst e; exact ⟨_, rfl, r⟩
    | succ i => simp at e; simpa using ih e
/-- a list or a tuple -/
def IsSeqA (A : AV) (Bs : List AV) : Prop := A = lst Bs ∨ A = tup Bs
theorem IsSeqA.sq {m : Mem} {A : AV} {Bs : List AV} (h : IsSeqA A Bs) : IsSq m A Bs := by
  rcases h with rfl | rfl
  · exact isSq_lst
  · exact isSq_tup
theorem wi_seq {X : Cx} {ρ : Rho} {m : Mem} {tg e : Expr} {Ki : List AV → Mem → Prop} {As : List AV} (hA : ∃ A, IsSeqA A As ∧ ∀ Kt : KA, Kt A m → WE X e ρ m Kt) (k : Ki As m) : WI X tg e ρ m Ki := by
  obtain ⟨A, h, w⟩ := hA
  rcases h with rfl | rfl
  · exact wi_list (w _ ⟨As, rfl, k⟩)
  · exact wi_tup (w _ ⟨As, rfl, k⟩)
def C_pairs : CT := fun As m Kt => ∃ A Bs qs, As = [A] ∧ IsSeqA A Bs ∧ IsVs Bs qs ∧ Bs.length ≤ 1000 ∧ Kt (tup (qs.map qv)) m
abbrev s_pairs : Stmt := topS 17
theorem sc_pairs : FnScope ["worths", "worth"] ["worths"] (defScope s_pairs) := ⟨rfl, rfl, rfl, by decide +kernel, rfl, by decide +kernel, by decide +kernel⟩
include Z in
theorem F_pairs (G : FnC P w K mg base 1 "pair" C_pair) {f : Addr} {fd : FuncData} (F : Fun K "pairs" "pairs" s_pairs f fd) (hm : mg "pairs" = some (.ref f)) (hb : Binds K fd ["worths"] []) : FnC P w K mg base 2 "pairs" C_pairs := by
  refine fnC F sc_pairs hm hb (fun As m Kt ⟨A, Bs, qs, h, _⟩ => by rw [h]; rfl) fun X a As m Kt ⟨A, Bs, qs, e1, hs, hv, hl, k⟩ => ?_
  subst e1
  refine wss_cons ?_
  refine ws_ret ?_
  refine b_tuple a Z rfl ?_
  refine wa_cons ?_
  refine WN.we (wn_lc1 a 1 (by decide +kernel) rfl rfl ?_)
  refine wi_seq ⟨A, hs, fun Kt k => we_name a 0 rfl (.inl rfl) rfl k⟩ ?_
  have ql : qs.length = Bs.length := (Paired.length hv).symm
  refine ⟨hl, fun i acc m' => m' = m ∧ acc = (qs.map qv).take i, ⟨rfl, by simp⟩, fun i acc m2 A hA hW X' hX => ?_, fun acc m2 hW => ?_⟩
  · obtain ⟨rfl, rfl⟩ := hW
    have b := hX.at_ a
    obtain ⟨q, hq, hv'⟩ := hv.get hA
    refine we_call b G (by decide) rfl ?_
    refine wa_cons ?_
    refine we_name b 1 rfl (.inl rfl) rfl ?_
    refine wa_nil ?_
    refine ⟨[], _, rfl, _, _, rfl, hv', ?_⟩
    refine ⟨rfl, ?_⟩
    rw [List.take_add_one, List.getElem?_map, hq]
    rfl
  · obtain ⟨rfl, rfl⟩ := hW
    refine wa_nil ?_
    refine .inl ⟨_, _, rfl, isLs_lst, ?_⟩
    rw [List.take_of_length_le (by rw [List.length_map, ql]; exact Nat.le_refl _)]
    exact bodyE.ret k
def C_are_values : CT := fun As m Kt => ∃ A Bs qs, As = [A] ∧ IsSeqA A Bs ∧ IsVs Bs qs ∧ Bs.length ≤ 1000 ∧ Kt (AL.bool true) m
abbrev s_are_values : Stmt := topS 15
theorem sc_are_values : FnScope ["thing", "part"] ["thing"] (defScope s_are_values) := ⟨rfl, rfl, rfl, by decide +kernel, rfl, by decide +kernel, by decide +kernel⟩
include Z in
theorem F_are_values (G : FnC P w K mg base 2 "is_value" C_is_value) (G2 : FnC P w K mg base 1 "is_sequence" C_is_sequence) {f : Addr} {fd : FuncData} (F : Fun K "are_values" "are_values" s_are_values f fd) (hm : mg "are_values" = some (.ref f)) (hb : Binds K fd ["thing"] []) : FnC P w K mg base 3 "are_values" C_are_values := by
  refine fnC F sc_are_values hm hb (fun As m Kt ⟨A, Bs, qs, h, _⟩ => by rw [h]; rfl) fun X a As m Kt ⟨A, Bs, qs, e1, hs, hv, hl, k⟩ => ?_
  subst e1
  refine wss_cons ?_
  refine ws_ret ?_
  refine we_and ?_
  refine we_call a G2 (by decide) rfl ?_
  refine wa_cons ?_
  refine we_name a 0 rfl (.inl rfl) rfl ?_
  refine wa_nil ?_
  have ht : ∃ t, HasTy A t ∧ t ∈ tys ∧ (t == "list" || t == "tuple") = true := by
    rcases hs with rfl | rfl
    · exact ⟨_, ty_lst, by decide, by decide⟩
    · exact ⟨_, ty_tup, by decide, by decide⟩
  obtain ⟨t, ht, h1, h2⟩ := ht
  refine ⟨[], _, rfl, _, t, rfl, ht, h1, ?_⟩
  refine ⟨_, rfl, ?_⟩
  refine brT h2 ?_
  refine we_one ?_
  refine b_all a Z rfl ?_
  refine wa_cons ?_
  refine WN.we (wn_lc1 a 1 (by decide +kernel) rfl rfl ?_)
  refine wi_seq ⟨A, hs, fun Kt k => we_name a 0 rfl (.inl rfl) rfl k⟩ ?_
  refine ⟨hl, fun i acc m' => m' = m ∧ acc = List.replicate i (AL.bool true), ⟨rfl, rfl⟩, fun i acc m2 A hA hW X' hX => ?_, fun acc m2 hW => ?_⟩
  · obtain ⟨rfl, rfl⟩ := hW
    have b := hX.at_ a
    obtain ⟨q, hq, hv'⟩ := hv.get hA
    refine we_call b G (by decide) rfl ?_
    refine wa_cons ?_
    refine we_name b 1 rfl (.inl rfl) rfl ?_
    refine wa_nil ?_
    refine ⟨[], _, rfl, _, _, rfl, hv', ?_⟩
    exact ⟨rfl, by rw [List.replicate_succ']⟩
  · obtain ⟨rfl, rfl⟩ := hW
    refine wa_nil ?_
    refine ⟨List.replicate Bs.length true, by rw [List.map_replicate], ?_⟩
    have e : (List.replicate Bs.length true).all id = true := by simp
    rw [e]
    exact bodyE.ret k
end
end HB
namespace HB
open PySem PySem.Spec L2 AL
open PyProof.Rows hiding St
/-! ### mirrors that tell also where sizes end -/
def smB (q : Q2) : Bool := decide (q.1.natAbs < B4) && decide (q.2.natAbs < B4) && decide (q.2 ≠ 0)
theorem smB_ok {q : Q2} (h : smB q = true) : SmQ q := by
  unfold smB at h
  simp only [Bool.and_eq_true, decide_eq_true_eq] at h
  exact ⟨h.1.1, h.1.2, h.2⟩
def guardO {α : Type} (c : Bool) (x : Option α) : Option α := if c = true then x else none
theorem guardO_some {α : Type} {c : Bool} {x : Option α} {r : α} (h : guardO c x = some r) : c = true ∧ x = some r := by
  unfold guardO at h
  split at h
  · exact ⟨‹_›, h⟩
  · cases h
def opO (f : Q2 → Q2 → Q2) (x y : Q2) : Option Q2 := guardO (smB x && smB y) (some (f x y))
theorem opO_some {f : Q2 → Q2 → Q2} {x y r : Q2} (h : opO f x y = some r) : SmQ x ∧ SmQ y ∧ r = f x y := by
  obtain ⟨h1, h2⟩ := guardO_some h
  rw [Bool.and_eq_true] at h1
  exact ⟨smB_ok h1.1, smB_ok h1.2, (Option.some.inj h2).symm⟩
def addO := opO addM
def subO := opO subM
def mulO := opO mulM
def divO (x y : Q2) : Option Q2 := guardO (decide (y.1 ≠ 0)) (opO divM x y)
theorem divO_some {x y r : Q2} (h : divO x y = some r) : SmQ x ∧ SmQ y ∧ y.1 ≠ 0 ∧ r = divM x y := by
  obtain ⟨h1, h2⟩ := guardO_some h
  obtain ⟨a, b, c⟩ := opO_some h2
  exact ⟨a, b, of_decide_eq_true h1, c⟩
abbrev Q0 : Q2 := (0, 1)
abbrev Q1 : Q2 := (1, 1)
def totalO (l : List Q2) : Option Q2 := l.foldlM addO Q0
section
variable {P : Program} {w : World} {K : PySem.W.Frag} {mg : Str → Option Value} {base : Heap} (Z : Blt mg)
variable {N : List Str} {sc : Scope} {df : Bool} {k : Nat} {X : Cx} {ρ : Rho} {m : Mem} {Kt : KA} {pos : Pos} {e f : Expr}
/-- a call of one of the operations -/
def C_opO (f : Q2 → Q2 → Option Q2) : CT := fun As m Kt => ∃ x y r, As = [qv x, qv y] ∧ f x y = some r ∧ Kt (qv r) m
theorem FnC.weak {j : Nat} {x : Str} {C C' : CT} (F : FnC P w K mg base j x C) (h : ∀ As m Kt, C' As m Kt → C As m Kt) : FnC P w K mg base j x C' := by
  obtain ⟨f, fd, ps, F, h2⟩ := F
  exact ⟨f, fd, ps, F.imp (fun vs H Q E ⟨fr, As, m, Kt, hc, r⟩ => ⟨fr, As, m, Kt, h _ _ _ hc, r⟩), h2⟩
theorem F_addO (F : FnC P w K mg base 2 "added" (C_op addM)) : FnC P w K mg base 2 "added" (C_opO addO) := FnC.weak F fun As m Kt ⟨x, y, r, e, h, k⟩ => by
  obtain ⟨h1, h2, rfl⟩ := opO_some h
  exact ⟨x, y, e, h1, h2, k⟩
theorem F_subO (F : FnC P w K mg base 2 "taken" (C_op subM)) : FnC P w K mg base 2 "taken" (C_opO subO) := FnC.weak F fun As m Kt ⟨x, y, r, e, h, k⟩ => by
  obtain ⟨h1, h2, rfl⟩ := opO_some h
  exact ⟨x, y, e, h1, h2, k⟩
theorem F_mulO (F : FnC P w K mg base 2 "multiplied" (C_op mulM)) : FnC P w K mg base 2 "multiplied" (C_opO mulO) := FnC.weak F fun As m Kt ⟨x, y, r, e, h, k⟩ => by
  obtain ⟨h1, h2, rfl⟩ := opO_some h
  exact ⟨x, y, e, h1, h2, k⟩
theorem F_divO (F : FnC P w K mg base 2 "divided" C_div) : FnC P w K mg base 2 "divided" (C_opO divO) := FnC.weak F fun As m Kt ⟨x, y, r, e, h, k⟩ => by
  obtain ⟨h1, h2, h3, rfl⟩ := divO_some h
  exact ⟨x, y, e, h1, h2, h3, k⟩
def lessO (x y : Q2) : Option Bool := guardO (smB x && smB y) (some (lessM x y))
def C_lessO : CT := fun As m Kt => ∃ x y r, As = [qv x, qv y] ∧ lessO x y = some r ∧ Kt (AL.bool r) m
theorem F_lessO (F : FnC P w K mg base 1 "is_less" C_less) : FnC P w K mg base 1 "is_less" C_lessO := FnC.weak F fun As m Kt ⟨x, y, r, e, h, k⟩ => by
  obtain ⟨h1, h2⟩ := guardO_some h
  rw [Bool.and_eq_true] at h1
  cases h2
  exact ⟨x, y, e, smB_ok h1.1, smB_ok h1.2, k⟩
/-- a module's pair -/
def KPair (K : PySem.W.Frag) (mg : Str → Option Value) (x : Str) (q : Q2) : Prop := ∃ z, mg x = some (.ref z) ∧ KSeq K "tuple" z [V.int q.1, V.int q.2]
theorem g_pair (a : At P w K mg base N sc df k X) {x : Str} {q : Q2} (h : KPair K mg x q) (hg : sc.names.lookup x = some .globalImplicit) (q' : Kt (qv q) m) (hd : (x == ("__debug__" : Str)) = false := by decide) : WE X (.Name x pos) ρ m Kt := by
  obtain ⟨z, hm, hk⟩ := h
  exact we_glob (A := qv q) (v := .ref z) a hg hm rfl (fun M H => ⟨z, _, rfl, .inr hk, .cons rfl (.cons rfl .nil)⟩) q' hd
theorem swF (a : At P w K mg base N sc df k X) {elt : Expr} {gs : List Comprehension} {scope : Scope} {py : Pos} {y : Str} {l : Nat} (hy : sc.names.lookup y = some .cell) : swapsWith (.ListComp elt gs scope pos) (some (.Name y py)) l X.env = pure false := by
  have ky : X.env.kindOf y = some .cell := by show X.env.scope.names.lookup y = _; rw [a.sce]; exact hy
  unfold swapsWith
  simp only [ky]
  have e : ((some NameKind.cell : Option NameKind) == some NameKind.local) = false := by decide
  simp [e]
/-! ### total -/
def C_total : CT := fun As m Kt => ∃ A l r, As = [A] ∧ IsSeqA A (l.map qv) ∧ totalO l = some r ∧ Kt (qv r) m
abbrev s_total : Stmt := topS 23
theorem sc_total : FnScope ["worths", "result", "worth"] ["worths"] (defScope s_total) := ⟨rfl, rfl, rfl, by decide +kernel, rfl, by decide +kernel, by decide +kernel⟩
theorem foldlM_pre {α β : Type} {f : β → α → Option β} {b r : β} {l : List α} (h : l.foldlM f b = some r) (i : Nat) : ∃ x, (l.take i).foldlM f b = some x ∧ (l.drop i).foldlM f x = some r := by
  rw [← List.take_append_drop i l, List.foldlM_append] at h
  cases e : (l.take i).foldlM f b with
  | none => rw [e] at h; cases h
  | some x => rw [e] at h; exact ⟨x, rfl, h⟩
theorem foldlM_step {α β : Type} {f : β → α → Option β} {b r : β} {l : List α} (h : l.foldlM f b = some r) {i : Nat} {x : β} {y : α} (hx : (l.take i).foldlM f b = some x) (hy : l[i]? = some y) : ∃ z, f x y = some z ∧ (l.take (i + 1)).foldlM f b = some z := by
  obtain ⟨z, hz, _⟩ := foldlM_pre h (i + 1)
  refine ⟨z, ?_, hz⟩
  rw [List.take_add_one, hy, List.foldlM_append, hx] at hz
  simpa using hz
include Z in
theorem F_total (Zz : KPair K mg "ZERO" Q0) (G : FnC P w K mg base 2 "added" (C_opO addO)) {f : Addr} {fd : FuncData} (F : Fun K "total" "total" s_total f fd) (hm : mg "total" = some (.ref f)) (hb : Binds K fd ["worths"] []) : FnC P w K mg base 3 "total" C_total := by
  refine fnC F sc_total hm hb (fun As m Kt ⟨A, l, r, h, _⟩ => by rw [h]; rfl) fun X a As m Kt ⟨A, l, r, e1, hs, ht, q⟩ => ?_
  subst e1
  refine wss_cons ?_
  refine ws_set a 1 rfl (.inl rfl) ?_
  refine g_pair a Zz rfl ?_
  refine wss_cons ?_
  refine ws_for a (fun i ρ' m' => m' = m ∧ ∃ x y, (l.take i).foldlM addO Q0 = some x ∧ ρ' = [some A, some (qv x), y]) ?_
  refine wi_seq ⟨A, hs, fun Kt k => we_name a 0 rfl (.inl rfl) rfl k⟩ ?_
  refine ⟨⟨rfl, Q0, none, rfl, rfl⟩, fun i B ρ' m' hB hW => ?_, fun ρ' m' hW => ?_⟩
  · obtain ⟨rfl, x, y, hx, rfl⟩ := hW
    rw [List.getElem?_map] at hB
    obtain ⟨b, hb, rfl⟩ := Option.map_eq_some_iff.mp hB
    obtain ⟨z, hz, hz2⟩ := foldlM_step ht hx hb
    refine wg_name a 2 rfl (.inl rfl) ?_
    refine wss_cons ?_
    refine ws_set a 1 rfl (.inl rfl) ?_
    refine we_call a G (by decide) rfl ?_
    refine wa_cons ?_
    refine we_name a 1 rfl (.inl rfl) rfl ?_
    refine wa_cons ?_
    refine we_name a 2 rfl (.inl rfl) rfl ?_
    refine wa_nil ?_
    refine ⟨[], _, rfl, _, _, _, rfl, hz, ?_⟩
    refine wss_nil ?_
    exact ⟨rfl, z, _, hz2, rfl⟩
  · obtain ⟨rfl, x, y, hx, rfl⟩ := hW
    rw [List.length_map, List.take_length] at hx
    have e : x = r := Option.some.inj (hx.symm.trans ht)
    subst e
    refine wss_cons ?_
    refine ws_ret ?_
    refine we_name a 1 rfl (.inl rfl) rfl ?_
    exact bodyE.ret q
/-! ### knots -/
def knotsM (d : Nat) (qs : List Q2) : List Q2 := List.replicate d (qs.headD Q0) ++ qs ++ List.replicate d (qs.getLastD Q0)
def C_knots : CT := fun As m Kt => ∃ (d : Nat) (A : AV) (Bs : List AV) (qs : List Q2), As = [AL.int d, A] ∧ IsSeqA A Bs ∧ IsVs Bs qs ∧ qs ≠ [] ∧ qs.length + 2 * d ≤ 900 ∧ Kt (tup ((knotsM d qs).map qv)) m
abbrev s_knots_of : Stmt := topS 38
theorem sc_knots_of : FnScope ["degree", "marks", "row"] ["degree", "marks"] (defScope s_knots_of) := ⟨rfl, rfl, rfl, by decide +kernel, rfl, by decide +kernel, by decide +kernel⟩
theorem rep_flat {α : Type} (x : α) : ∀ n : Nat, (List.replicate n [x]).flatten = List.replicate n x
  | 0 => rfl
  | n + 1 => by rw [List.replicate_succ, List.flatten_cons, rep_flat x n]; rfl
theorem at_first {qs : List Q2} (h : qs ≠ []) : L2.atI (qs.map qv) 0 = some (qv (qs.headD Q0)) := by
  cases qs with
  | nil => exact absurd rfl h
  | cons q r => exact atI_nat (j := 0) rfl
theorem at_last {qs : List Q2} (h : qs ≠ []) : L2.atI (qs.map qv) (-1) = some (qv (qs.getLastD Q0)) := by
  obtain ⟨r, q, rfl⟩ : ∃ r q, qs = r ++ [q] := ⟨qs.dropLast, qs.getLast h, (List.dropLast_concat_getLast h).symm⟩
  rw [List.map_append]
  have e : (r ++ [q]).getLastD Q0 = q := by simp [List.getLastD_eq_getLast?]
  rw [e]
  exact atI_last _ _
include Z in
theorem F_knots_of (G : FnC P w K mg base 2 "pairs" C_pairs) {f : Addr} {fd : FuncData} (F : Fun K "knots_of" "knots_of" s_knots_of f fd) (hm : mg "knots_of" = some (.ref f)) (hb : Binds K fd ["degree", "marks"] []) : FnC P w K mg base 3 "knots_of" C_knots := by
  refine fnC F sc_knots_of hm hb (fun As m Kt ⟨d, A, Bs, qs, h, _⟩ => by rw [h]; rfl) fun X a As m Kt ⟨d, A, Bs, qs, e1, hs, hv, hne, hl, q⟩ => ?_
  subst e1
  have ql : Bs.length = qs.length := Paired.length hv
  refine wss_cons ?_
  refine ws_set a 2 rfl (.inl rfl) ?_
  refine we_call a G (by decide) rfl ?_
  refine wa_cons ?_
  refine we_name a 1 rfl (.inl rfl) rfl ?_
  refine wa_nil ?_
  refine ⟨[], _, rfl, A, Bs, qs, rfl, hs, hv, by omega, ?_⟩
  refine wss_cons ?_
  refine ws_ret ?_
  refine we_tcat ?_
  refine we_tcat ?_
  refine we_trep ?_
  refine we_tup ?_
  refine wa_cons ?_
  refine we_ix ?_
  refine we_name a 2 rfl (.inl rfl) rfl ?_
  refine we_int ?_
  refine ⟨_, _, _, isSq_tup, rfl, at_first hne, ?_⟩
  refine wa_nil ?_
  refine ⟨(by decide : 1 ≤ 1000), ?_⟩
  refine we_name a 0 rfl (.inl rfl) rfl ?_
  refine ⟨_, d, rfl, rfl, by simp, by omega, by omega, (by decide : 1 ≤ 1000), ?_⟩
  refine we_name a 2 rfl (.inl rfl) rfl ?_
  refine ⟨_, _, rfl, rfl, by rw [rep_flat, List.length_replicate, List.length_map]; omega, ?_⟩
  refine we_trep ?_
  refine we_tup ?_
  refine wa_cons ?_
  refine we_ix ?_
  refine we_name a 2 rfl (.inl rfl) rfl ?_
  refine we_neg ?_
  refine we_int ?_
  refine ⟨_, rfl, ?_⟩
  refine ⟨_, _, _, isSq_tup, rfl, at_last hne, ?_⟩
  refine wa_nil ?_
  refine ⟨(by decide : 1 ≤ 1000), ?_⟩
  refine we_name a 0 rfl (.inl rfl) rfl ?_
  refine ⟨_, d, rfl, rfl, by simp, by omega, by omega, (by decide : 1 ≤ 1000), ?_⟩
  refine ⟨_, _, rfl, rfl, by rw [rep_flat, rep_flat, List.length_append, List.length_replicate, List.length_replicate, List.length_map]; omega, ?_⟩
  have e : List.replicate (d : Int).toNat (qv (qs.headD Q0)) ++ qs.map qv ++ List.replicate (d : Int).toNat (qv (qs.getLastD Q0)) = (knotsM d qs).map qv := by
    unfold knotsM
    rw [List.map_append, List.map_append, List.map_replicate, List.map_replicate, Int.toNat_natCast]
  rw [rep_flat, rep_flat, e]
  exact bodyE.ret q
end
end HB
namespace HB
open PySem PySem.Spec L2 AL
open PyProof.Rows hiding St
abbrev qd (q : Q2) : PyData := .tuple [.int q.1, .int q.2]
theorem dat_q {m : Mem} {q : Q2} : IsDat m (qv q) (qd q) := isDat_tup (.cons isDat_int (.cons isDat_int .nil))
theorem eqv_q {a b : Q2} : PyData.eqv (qd a) (qd b) = decide (a = b) := by
  obtain ⟨a1, a2⟩ := a
  obtain ⟨b1, b2⟩ := b
  show (a1 == b1 && (a2 == b2 && true)) = _
  by_cases h1 : a1 = b1 <;> by_cases h2 : a2 = b2 <;> simp [h1, h2]
def shareO (w a b : Q2) : Option Q2 := if w = Q0 then some Q0 else (divO a b).bind fun d => mulO w d
def weightO (row knots : List Q2) (i size : Nat) (t : Q2) : Option Q2 :=
  (row[i]?).bind fun r0 => (knots[i]?).bind fun k0 => (subO t k0).bind fun x => (knots[i + size]?).bind fun ks => (subO ks k0).bind fun y => (shareO r0 x y).bind fun rising =>
  (row[i + 1]?).bind fun r1 => (knots[i + size + 1]?).bind fun ke => (subO ke t).bind fun x2 => (knots[i + 1]?).bind fun k1 => (subO ke k1).bind fun y2 => (shareO r1 x2 y2).bind fun falling =>
  addO rising falling
def aheadO (knots : List Q2) (t : Q2) (last : Int) : Nat → Nat → Option Nat
  | 0, at_ => if (at_ : Int) < last then none else some at_
  | n + 1, at_ => if (at_ : Int) < last then (knots[at_ + 1]?).bind fun k => (lessO t k).bind fun b => if b = true then some at_ else aheadO knots t last n (at_ + 1) else some at_
section
variable {P : Program} {w : World} {K : PySem.W.Frag} {mg : Str → Option Value} {base : Heap} (Z : Blt mg)
variable {N : List Str} {sc : Scope} {df : Bool} {k : Nat} {X : Cx} {ρ : Rho} {m : Mem} {Kt : KA} {pos : Pos} {e f : Expr}
theorem atN {l : List Q2} {n : Nat} {z : Int} {q : Q2} (h : l[n]? = some q) (hz : z = (n : Int)) : L2.atI (l.map qv) z = some (qv q) := by
  subst hz
  exact atI_nat (by rw [List.getElem?_map, h]; rfl)
/-! ### _share -/
def C_share : CT := fun As m Kt => ∃ w a b r, As = [qv w, qv a, qv b] ∧ shareO w a b = some r ∧ Kt (qv r) m
abbrev s_share : Stmt := topS 45
theorem sc_share : FnScope ["weight", "above", "below"] ["weight", "above", "below"] (defScope s_share) := ⟨rfl, rfl, rfl, by decide +kernel, rfl, by decide +kernel, by decide +kernel⟩
theorem F_share (Zz : KPair K mg "ZERO" Q0) (GM : FnC P w K mg base 2 "multiplied" (C_opO mulO)) (GD : FnC P w K mg base 2 "divided" (C_opO divO)) {f : Addr} {fd : FuncData} (F : Fun K "_share" "_share" s_share f fd) (hm : mg "_share" = some (.ref f)) (hb : Binds K fd ["weight", "above", "below"] []) : FnC P w K mg base 3 "_share" C_share := by
  refine fnC F sc_share hm hb (fun As m Kt ⟨w, a, b, r, h, _⟩ => by rw [h]; rfl) fun X a As m Kt ⟨wt, x, y, r, e1, hr, q⟩ => ?_
  subst e1
  refine wss_cons ?_
  refine ws_ret ?_
  refine we_ifexp ?_
  refine wt_cmp (op_eqD (hu_at a)) abs_eqD rfl ?_
  refine we_name a 0 rfl (.inl rfl) rfl ?_
  refine g_pair a Zz rfl ?_
  refine ⟨_, _, dat_q, dat_q, rfl, rfl, _, rfl, ?_⟩
  rw [eqv_q]
  unfold shareO at hr
  by_cases h0 : wt = Q0
  · rw [if_pos h0] at hr
    cases hr
    refine brT (decide_eq_true h0) ?_
    refine g_pair a Zz rfl ?_
    exact bodyE.ret q
  · rw [if_neg h0] at hr
    obtain ⟨d, hd, hr⟩ := Option.bind_eq_some_iff.mp hr
    refine brF (decide_eq_false h0) ?_
    refine we_call a GM (by decide) rfl ?_
    refine wa_cons ?_
    refine we_name a 0 rfl (.inl rfl) rfl ?_
    refine wa_cons ?_
    refine we_call a GD (by decide) rfl ?_
    refine wa_cons ?_
    refine we_name a 1 rfl (.inl rfl) rfl ?_
    refine wa_cons ?_
    refine we_name a 2 rfl (.inl rfl) rfl ?_
    refine wa_nil ?_
    refine ⟨[], m, rfl, _, _, _, rfl, hd, ?_⟩
    refine wa_nil ?_
    refine ⟨[], m, rfl, _, _, _, rfl, hr, ?_⟩
    exact bodyE.ret q
/-! ### _weight -/
def C_weight : CT := fun As m Kt => ∃ (row knots : List Q2) (i size : Nat) (t r : Q2), As = [lst (row.map qv), tup (knots.map qv), AL.int i, AL.int size, qv t] ∧ weightO row knots i size t = some r ∧ Kt (qv r) m
abbrev s_weight : Stmt := topS 44
theorem sc_weight : FnScope ["row", "knots", "i", "size", "when", "rising", "falling"] ["row", "knots", "i", "size", "when"] (defScope s_weight) := ⟨rfl, rfl, rfl, by decide +kernel, rfl, by decide +kernel, by decide +kernel⟩
theorem F_weight (GA : FnC P w K mg base 2 "added" (C_opO addO)) (GS : FnC P w K mg base 2 "taken" (C_opO subO)) (GH : FnC P w K mg base 3 "_share" C_share) {f : Addr} {fd : FuncData} (F : Fun K "_weight" "_weight" s_weight f fd) (hm : mg "_weight" = some (.ref f)) (hb : Binds K fd ["row", "knots", "i", "size", "when"] []) : FnC P w K mg base 4 "_weight" C_weight := by
  refine fnC F sc_weight hm hb (fun As m Kt ⟨row, knots, i, size, t, r, h, _⟩ => by rw [h]; rfl) fun X a As m Kt ⟨row, knots, i, size, t, r, e1, hr, q⟩ => ?_
  subst e1
  unfold weightO at hr
  simp only [Option.bind_eq_some_iff] at hr
  obtain ⟨r0, h1, k0, h2, x, h3, ks, h4, y, h5, rising, h6, r1, h7, ke, h8, x2, h9, k1, h10, y2, h11, falling, h12, hr⟩ := hr
  refine wss_cons ?_
  refine ws_set a 5 rfl (.inl rfl) ?_
  refine we_call a GH (by decide) rfl ?_
  refine wa_cons ?_
  refine we_ix ?_
  refine we_name a 0 rfl (.inl rfl) rfl ?_
  refine we_name a 2 rfl (.inl rfl) rfl ?_
  refine ⟨_, _, _, isSq_lst, rfl, atN h1 rfl, ?_⟩
  refine wa_cons ?_
  refine we_call a GS (by decide) rfl ?_
  refine wa_cons ?_
  refine we_name a 4 rfl (.inl rfl) rfl ?_
  refine wa_cons ?_
  refine we_ix ?_
  refine we_name a 1 rfl (.inl rfl) rfl ?_
  refine we_name a 2 rfl (.inl rfl) rfl ?_
  refine ⟨_, _, _, isSq_tup, rfl, atN h2 rfl, ?_⟩
  refine wa_nil ?_
  refine ⟨[], m, rfl, _, _, _, rfl, h3, ?_⟩
  refine wa_cons ?_
  refine we_call a GS (by decide) rfl ?_
  refine wa_cons ?_
  refine we_ix ?_
  refine we_name a 1 rfl (.inl rfl) rfl ?_
  refine we_add ?_
  refine we_name a 2 rfl (.inl rfl) rfl ?_
  refine we_name a 3 rfl (.inl rfl) rfl ?_
  refine ⟨_, _, rfl, rfl, ?_⟩
  refine ⟨_, _, _, isSq_tup, rfl, atN h4 (by omega), ?_⟩
  refine wa_cons ?_
  refine we_ix ?_
  refine we_name a 1 rfl (.inl rfl) rfl ?_
  refine we_name a 2 rfl (.inl rfl) rfl ?_
  refine ⟨_, _, _, isSq_tup, rfl, atN h2 rfl, ?_⟩
  refine wa_nil ?_
  refine ⟨[], m, rfl, _, _, _, rfl, h5, ?_⟩
  refine wa_nil ?_
  refine ⟨[], m, rfl, _, _, _, _, rfl, h6, ?_⟩
  refine wss_cons ?_
  refine ws_set a 6 rfl (.inl rfl) ?_
  refine we_call a GH (by decide) rfl ?_
  refine wa_cons ?_
  refine we_ix ?_
  refine we_name a 0 rfl (.inl rfl) rfl ?_
  refine we_add ?_
  refine we_name a 2 rfl (.inl rfl) rfl ?_
  refine we_int ?_
  refine ⟨_, _, rfl, rfl, ?_⟩
  refine ⟨_, _, _, isSq_lst, rfl, atN h7 (by omega), ?_⟩
  refine wa_cons ?_
  refine we_call a GS (by decide) rfl ?_
  refine wa_cons ?_
  refine we_ix ?_
  refine we_name a 1 rfl (.inl rfl) rfl ?_
  refine we_add ?_
  refine we_add ?_
  refine we_name a 2 rfl (.inl rfl) rfl ?_
  refine we_name a 3 rfl (.inl rfl) rfl ?_
  refine ⟨_, _, rfl, rfl, ?_⟩
  refine we_int ?_
  refine ⟨_, _, rfl, rfl, ?_⟩
  refine ⟨_, _, _, isSq_tup, rfl, atN h8 (by omega), ?_⟩
  refine wa_cons ?_
  refine we_name a 4 rfl (.inl rfl) rfl ?_
  refine wa_nil ?_
  refine ⟨[], m, rfl, _, _, _, rfl, h9, ?_⟩
  refine wa_cons ?_
  refine we_call a GS (by decide) rfl ?_
  refine wa_cons ?_
  refine we_ix ?_
  refine we_name a 1 rfl (.inl rfl) rfl ?_
  refine we_add ?_
  refine we_add ?_
  refine we_name a 2 rfl (.inl rfl) rfl ?_
  refine we_name a 3 rfl (.inl rfl) rfl ?_
  refine ⟨_, _, rfl, rfl, ?_⟩
  refine we_int ?_
  refine ⟨_, _, rfl, rfl, ?_⟩
  refine ⟨_, _, _, isSq_tup, rfl, atN h8 (by omega), ?_⟩
  refine wa_cons ?_
  refine we_ix ?_
  refine we_name a 1 rfl (.inl rfl) rfl ?_
  refine we_add ?_
  refine we_name a 2 rfl (.inl rfl) rfl ?_
  refine we_int ?_
  refine ⟨_, _, rfl, rfl, ?_⟩
  refine ⟨_, _, _, isSq_tup, rfl, atN h10 (by omega), ?_⟩
  refine wa_nil ?_
  refine ⟨[], m, rfl, _, _, _, rfl, h11, ?_⟩
  refine wa_nil ?_
  refine ⟨[], m, rfl, _, _, _, _, rfl, h12, ?_⟩
  refine wss_cons ?_
  refine ws_ret ?_
  refine we_call a GA (by decide) rfl ?_
  refine wa_cons ?_
  refine we_name a 5 rfl (.inl rfl) rfl ?_
  refine wa_cons ?_
  refine we_name a 6 rfl (.inl rfl) rfl ?_
  refine wa_nil ?_
  refine ⟨[], m, rfl, _, _, _, rfl, hr, ?_⟩
  exact bodyE.ret q
/-! ### _knot_ahead -/
def C_ahead : CT := fun As m Kt => ∃ (d : Nat) (knots : List Q2) (t : Q2) (r : Nat), As = [AL.int d, tup (knots.map qv), qv t] ∧ aheadO knots t ((knots.length : Int) - d - 2) knots.length d = some r ∧ Kt (AL.int r) m
abbrev s_knot_ahead : Stmt := topS 43
theorem sc_knot_ahead : FnScope ["degree", "knots", "when", "last", "at"] ["degree", "knots", "when"] (defScope s_knot_ahead) := ⟨rfl, rfl, rfl, by decide +kernel, rfl, by decide +kernel, by decide +kernel⟩
include Z in
theorem F_knot_ahead (GL : FnC P w K mg base 1 "is_less" C_lessO) {f : Addr} {fd : FuncData} (F : Fun K "_knot_ahead" "_knot_ahead" s_knot_ahead f fd) (hm : mg "_knot_ahead" = some (.ref f)) (hb : Binds K fd ["degree", "knots", "when"] []) : FnC P w K mg base 2 "_knot_ahead" C_ahead := by
  refine fnC F sc_knot_ahead hm hb (fun As m Kt ⟨d, knots, t, r, h, _⟩ => by rw [h]; rfl) fun X a As m Kt ⟨d, knots, t, r, e1, hr, q⟩ => ?_
  subst e1
  refine wss_cons ?_
  refine ws_set a 3 rfl (.inl rfl) ?_
  refine we_sub ?_
  refine we_sub ?_
  refine b_len a Z rfl ?_
  refine wa_cons ?_
  refine we_name a 1 rfl (.inl rfl) rfl ?_
  refine wa_nil ?_
  refine ⟨_, _, rfl, isSq_tup, ?_⟩
  refine we_name a 0 rfl (.inl rfl) rfl ?_
  refine ⟨_, _, rfl, rfl, ?_⟩
  refine we_int ?_
  refine ⟨_, _, rfl, rfl, ?_⟩
  rw [List.length_map]
  refine wss_cons ?_
  refine ws_set a 4 rfl (.inl rfl) ?_
  refine we_name a 0 rfl (.inl rfl) rfl ?_
  refine wss_cons ?_
  refine ws_while a (fun n ρ' m' => m' = m ∧ ∃ at_ : Nat, aheadO knots t ((knots.length : Int) - d - 2) n at_ = some r ∧ ρ' = [some (AL.int d), some (tup (knots.map qv)), some (qv t), some (AL.int ((knots.length : Int) - d - 2)), some (AL.int at_)]) knots.length ⟨rfl, d, hr, rfl⟩ fun n ρ' m' hW => ?_
  obtain ⟨rfl, at_, ha, rfl⟩ := hW
  refine wt_of ?_
  refine ww_and ?_
  refine wt_icmp op_lt rfl ?_
  refine we_name a 4 rfl (.inl rfl) rfl ?_
  refine we_name a 3 rfl (.inl rfl) rfl ?_
  refine ⟨_, _, rfl, rfl, ?_⟩
  have out : some at_ = some r → WSs X [.Return (some (.Name "at" ⟨0, 0, 0, 0⟩)) ⟨0, 0, 0, 0⟩] [some (AL.int d), some (tup (knots.map qv)), some (qv t), some (AL.int ((knots.length : Int) - d - 2)), some (AL.int at_)] m' (bodyE Kt) → True := fun _ _ => trivial
  refine br (fun hlt => ?_) (fun hge => ?_)
  · have hlt' := of_decide_eq_true hlt
    cases n with
    | zero => unfold aheadO at ha; rw [if_pos hlt'] at ha; cases ha
    | succ n =>
      unfold aheadO at ha
      rw [if_pos hlt'] at ha
      obtain ⟨kn, h1, ha⟩ := Option.bind_eq_some_iff.mp ha
      obtain ⟨b, h2, ha⟩ := Option.bind_eq_some_iff.mp ha
      refine ww_and1 ?_
      refine wt_not ?_
      refine wt_val ?_
      refine we_call a GL (by decide) rfl ?_
      refine wa_cons ?_
      refine we_name a 2 rfl (.inl rfl) rfl ?_
      refine wa_cons ?_
      refine we_ix ?_
      refine we_name a 1 rfl (.inl rfl) rfl ?_
      refine we_add ?_
      refine we_name a 4 rfl (.inl rfl) rfl ?_
      refine we_int ?_
      refine ⟨_, _, rfl, rfl, ?_⟩
      refine ⟨_, _, _, isSq_tup, rfl, atN h1 (by omega), ?_⟩
      refine wa_nil ?_
      refine ⟨[], m', rfl, _, _, _, rfl, h2, ?_⟩
      refine ⟨_, rfl, ?_⟩
      cases b with
      | true =>
        rw [if_pos rfl] at ha
        cases ha
        refine brF rfl ?_
        refine wss_cons ?_
        refine ws_ret ?_
        refine we_name a 4 rfl (.inl rfl) rfl ?_
        exact bodyE.ret q
      | false =>
        rw [if_neg Bool.false_ne_true] at ha
        refine brT rfl ?_
        refine wss_cons ?_
        refine ws_augI a 4 rfl (.inl rfl) rfl ?_
        refine we_int ?_
        refine ⟨_, rfl, ?_⟩
        refine wss_nil ?_
        exact ⟨n, Nat.lt_succ_self n, rfl, at_ + 1, ha, rfl⟩
  · have hge' := of_decide_eq_false hge
    have e : at_ = r := by
      cases n with
      | zero => unfold aheadO at ha; rw [if_neg hge'] at ha; exact Option.some.inj ha
      | succ n => unfold aheadO at ha; rw [if_neg hge'] at ha; exact Option.some.inj ha
    subst e
    refine brF rfl ?_
    refine wss_cons ?_
    refine ws_ret ?_
    refine we_name a 4 rfl (.inl rfl) rfl ?_
    exact bodyE.ret q
end
end HB
namespace HB
open PySem PySem.Spec L2 AL
open PyProof.Rows hiding St
theorem mapM_get {α β : Type} {f : α → Option β} : ∀ {l : List α} {r : List β}, l.mapM f = some r → r.length = l.length ∧ ∀ (i : Nat) (x : α), l[i]? = some x → ∃ y, f x = some y ∧ r[i]? = some y
  | [], r, h => by
    simp at h
    subst h
    exact ⟨rfl, fun i x e => by simp at e⟩
  | a :: l, r, h => by
    rw [List.mapM_cons] at h
    obtain ⟨y, hy, h⟩ := Option.bind_eq_some_iff.mp h
    obtain ⟨ys, hys, h⟩ := Option.bind_eq_some_iff.mp h
    have e : y :: ys = r := Option.some.inj h
    subst e
    obtain ⟨h1, h2⟩ := mapM_get hys
    refine ⟨by simp [h1], fun i x e => ?_⟩
    cases i with
    | zero => simp at e; subst e; exact ⟨y, hy, rfl⟩
    | succ i => simp at e; simpa using h2 i x e
theorem take_snoc {α : Type} {r : List α} {i : Nat} {y : α} (h : r[i]? = some y) : r.take (i + 1) = r.take i ++ [y] := by
  rw [List.take_add_one, h]; rfl
theorem rangeA_get {lo : Int} {n i : Nat} {A : AV} (h : (rangeA lo n)[i]? = some A) : i < n ∧ A = AL.int (lo + (i : Int)) := by
  unfold rangeA at h
  rw [List.getElem?_map] at h
  obtain ⟨x, hx, rfl⟩ := Option.map_eq_some_iff.mp h
  have hl := List.getElem?_eq_some_iff.mp hx
  obtain ⟨h1, h2⟩ := hl
  rw [List.length_range] at h1
  rw [List.getElem_range] at h2
  subst h2
  exact ⟨h1, rfl⟩
theorem rangeA_len {lo : Int} {n : Nat} : (rangeA lo n).length = n := by simp [rangeA]
theorem range_get {n i : Nat} (h : i < n) : (List.range n)[i]? = some i := by simp [h]
def withinO (qs : List Q2) (t : Q2) : Bool := (lessO t (qs.headD Q0) == some false) && (lessO (qs.getLastD Q0) t == some false)
def rowO (knots : List Q2) (t : Q2) (row : List Q2) (s : Nat) : Option (List Q2) := (List.range (row.length - 1)).mapM fun i => weightO row knots i (s + 1) t
def weightsO (d : Nat) (qs : List Q2) (t : Q2) : Option (List Q2) :=
  guardO (!qs.isEmpty && decide (qs.length + 2 * d ≤ 900) && withinO qs t) <|
  (aheadO (knotsM d qs) t (((knotsM d qs).length : Int) - d - 2) (knotsM d qs).length d).bind fun h =>
  (List.range d).foldlM (rowO (knotsM d qs) t) ((List.range ((knotsM d qs).length - 1)).map fun (i : Nat) => if i = h then Q1 else Q0)
theorem rowO_len {knots row r : List Q2} {t : Q2} {s : Nat} (h : rowO knots t row s = some r) : r.length = row.length - 1 := by
  have q := (mapM_get h).1
  rw [List.length_range] at q
  exact q
section
variable {P : Program} {w : World} {K : PySem.W.Frag} {mg : Str → Option Value} {base : Heap} (Z : Blt mg)
variable {N : List Str} {sc : Scope} {df : Bool} {k : Nat} {X : Cx} {ρ : Rho} {m : Mem} {Kt : KA} {pos : Pos} {e f : Expr}
theorem IsVs.first {Bs : List AV} {qs : List Q2} (h : IsVs Bs qs) (hne : qs ≠ []) : ∃ B, L2.atI Bs 0 = some B ∧ IsV B (qs.headD Q0) := by
  cases h with
  | nil => exact absurd rfl hne
  | cons r t => exact ⟨_, atI_nat (j := 0) rfl, r⟩
theorem paired_last {Bs : List AV} {qs : List Q2} (h : IsVs Bs qs) : ∀ {q : Q2} {r : List Q2}, qs = r ++ [q] → ∃ Cs C, Bs = Cs ++ [C] ∧ IsV C q := by
  induction h with
  | nil => intro q r e; simp at e
  | @cons A x Bs qs hr ht ih =>
    intro q r e
    cases r with
    | nil =>
      simp at e
      obtain ⟨rfl, rfl⟩ := e
      cases ht
      exact ⟨[], A, rfl, hr⟩
    | cons y r =>
      simp at e
      obtain ⟨rfl, rfl⟩ := e
      obtain ⟨Cs, C, rfl, hc⟩ := ih rfl
      exact ⟨A :: Cs, C, rfl, hc⟩
theorem IsVs.last {Bs : List AV} {qs : List Q2} (h : IsVs Bs qs) (hne : qs ≠ []) : ∃ B, L2.atI Bs (-1) = some B ∧ IsV B (qs.getLastD Q0) := by
  obtain ⟨r, q, rfl⟩ : ∃ r q, qs = r ++ [q] := ⟨qs.dropLast, qs.getLast hne, (List.dropLast_concat_getLast hne).symm⟩
  obtain ⟨Cs, C, rfl, hc⟩ := paired_last h rfl
  have e : (r ++ [q]).getLastD Q0 = q := by simp [List.getLastD_eq_getLast?]
  rw [e]
  exact ⟨C, atI_last _ _, hc⟩
/-! ### time_within -/
def C_within : CT := fun As m Kt => ∃ (A : AV) (Bs : List AV) (qs : List Q2) (T : AV) (t : Q2), As = [A, T] ∧ IsSeqA A Bs ∧ IsVs Bs qs ∧ IsV T t ∧ qs ≠ [] ∧ withinO qs t = true ∧ Kt (qv t) m
abbrev s_is_time : Stmt := topS 39
theorem sc_is_time : FnScope ["marks", "thing"] ["marks", "thing"] (defScope s_is_time) := ⟨rfl, rfl, rfl, by decide +kernel, rfl, by decide +kernel, by decide +kernel⟩
def C_is_time : CT := fun As m Kt => ∃ (A : AV) (Bs : List AV) (qs : List Q2) (T : AV) (t : Q2), As = [A, T] ∧ IsSeqA A Bs ∧ IsVs Bs qs ∧ IsV T t ∧ qs ≠ [] ∧ withinO qs t = true ∧ Kt (AL.bool true) m
theorem F_is_time (GV : FnC P w K mg base 2 "is_value" C_is_value) (GP : FnC P w K mg base 1 "pair" C_pair) (GL : FnC P w K mg base 1 "is_less" C_lessO) {f : Addr} {fd : FuncData} (F : Fun K "is_time" "is_time" s_is_time f fd) (hm : mg "is_time" = some (.ref f)) (hb : Binds K fd ["marks", "thing"] []) : FnC P w K mg base 3 "is_time" C_is_time := by
  refine fnC F sc_is_time hm hb (fun As m Kt ⟨A, Bs, qs, T, t, h, _⟩ => by rw [h]; rfl) fun X a As m Kt ⟨A, Bs, qs, T, t, e1, hs, hv, hT, hne, hw, q⟩ => ?_
  subst e1
  unfold withinO at hw
  rw [Bool.and_eq_true] at hw
  have w1 : lessO t (qs.headD Q0) = some false := beq_iff_eq.mp hw.1
  have w2 : lessO (qs.getLastD Q0) t = some false := beq_iff_eq.mp hw.2
  obtain ⟨B0, b1, b2⟩ := hv.first hne
  obtain ⟨B1, c1, c2⟩ := hv.last hne
  refine wss_cons ?_
  refine ws_if ?_
  refine wt_not ?_
  refine wt_val ?_
  refine we_call a GV (by decide) rfl ?_
  refine wa_cons ?_
  refine we_name a 1 rfl (.inl rfl) rfl ?_
  refine wa_nil ?_
  refine ⟨[], m, rfl, _, _, rfl, hT, ?_⟩
  refine ⟨_, rfl, ?_⟩
  refine brF rfl ?_
  refine wss_nil ?_
  refine wss_cons ?_
  refine ws_ret ?_
  refine we_and ?_
  refine we_not ?_
  refine we_call a GL (by decide) rfl ?_
  refine wa_cons ?_
  refine we_call a GP (by decide) rfl ?_
  refine wa_cons ?_
  refine we_name a 1 rfl (.inl rfl) rfl ?_
  refine wa_nil ?_
  refine ⟨[], m, rfl, _, _, rfl, hT, ?_⟩
  refine wa_cons ?_
  refine we_call a GP (by decide) rfl ?_
  refine wa_cons ?_
  refine we_ix ?_
  refine we_name a 0 rfl (.inl rfl) rfl ?_
  refine we_int ?_
  refine ⟨_, _, _, hs.sq, rfl, b1, ?_⟩
  refine wa_nil ?_
  refine ⟨[], m, rfl, _, _, rfl, b2, ?_⟩
  refine wa_nil ?_
  refine ⟨[], m, rfl, _, _, _, rfl, w1, ?_⟩
  refine ⟨_, rfl, ?_⟩
  refine ⟨_, rfl, ?_⟩
  refine brT rfl ?_
  refine we_one ?_
  refine we_not ?_
  refine we_call a GL (by decide) rfl ?_
  refine wa_cons ?_
  refine we_call a GP (by decide) rfl ?_
  refine wa_cons ?_
  refine we_ix ?_
  refine we_name a 0 rfl (.inl rfl) rfl ?_
  refine we_neg ?_
  refine we_int ?_
  refine ⟨_, rfl, ?_⟩
  refine ⟨_, _, _, hs.sq, rfl, c1, ?_⟩
  refine wa_nil ?_
  refine ⟨[], m, rfl, _, _, rfl, c2, ?_⟩
  refine wa_cons ?_
  refine we_call a GP (by decide) rfl ?_
  refine wa_cons ?_
  refine we_name a 1 rfl (.inl rfl) rfl ?_
  refine wa_nil ?_
  refine ⟨[], m, rfl, _, _, rfl, hT, ?_⟩
  refine wa_nil ?_
  refine ⟨[], m, rfl, _, _, _, rfl, w2, ?_⟩
  refine ⟨_, rfl, ?_⟩
  exact bodyE.ret q
abbrev s_time_within : Stmt := topS 40
theorem sc_time_within : FnScope ["marks", "time"] ["marks", "time"] (defScope s_time_within) := ⟨rfl, rfl, rfl, by decide +kernel, rfl, by decide +kernel, by decide +kernel⟩
theorem F_time_within (GI : FnC P w K mg base 3 "is_time" C_is_time) (GP : FnC P w K mg base 1 "pair" C_pair) {f : Addr} {fd : FuncData} (F : Fun K "time_within" "time_within" s_time_within f fd) (hm : mg "time_within" = some (.ref f)) (hb : Binds K fd ["marks", "time"] []) : FnC P w K mg base 4 "time_within" C_within := by
  refine fnC F sc_time_within hm hb (fun As m Kt ⟨A, Bs, qs, T, t, h, _⟩ => by rw [h]; rfl) fun X a As m Kt ⟨A, Bs, qs, T, t, e1, hs, hv, hT, hne, hw, q⟩ => ?_
  subst e1
  refine wss_cons ?_
  refine ws_if ?_
  refine wt_not ?_
  refine wt_val ?_
  refine we_call a GI (by decide) rfl ?_
  refine wa_cons ?_
  refine we_name a 0 rfl (.inl rfl) rfl ?_
  refine wa_cons ?_
  refine we_name a 1 rfl (.inl rfl) rfl ?_
  refine wa_nil ?_
  refine ⟨[], m, rfl, _, _, _, _, _, rfl, hs, hv, hT, hne, hw, ?_⟩
  refine ⟨_, rfl, ?_⟩
  refine brF rfl ?_
  refine wss_nil ?_
  refine wss_cons ?_
  refine ws_ret ?_
  refine we_call a GP (by decide) rfl ?_
  refine wa_cons ?_
  refine we_name a 1 rfl (.inl rfl) rfl ?_
  refine wa_nil ?_
  refine ⟨[], m, rfl, _, _, rfl, hT, ?_⟩
  exact bodyE.ret q
/-! ### weights -/
def C_weights : CT := fun As m Kt => ∃ (d : Nat) (A : AV) (Bs : List AV) (qs : List Q2) (T : AV) (t : Q2) (r : List Q2), As = [AL.int d, A, T] ∧ IsSeqA A Bs ∧ IsVs Bs qs ∧ IsV T t ∧ weightsO d qs t = some r ∧ Kt (tup (r.map qv)) m
abbrev s_weights : Stmt := topS 42
theorem sc_weights : FnScope ["degree", "marks", "time", "when", "knots", "here", "row", "size", "i"] ["degree", "marks", "time"] (defScope s_weights) := ⟨rfl, rfl, rfl, by decide +kernel, rfl, by decide +kernel, by decide +kernel⟩
theorem knotsM_len (d : Nat) (qs : List Q2) : (knotsM d qs).length = qs.length + 2 * d := by
  unfold knotsM
  simp
  omega
include Z in
theorem F_weights (Zz : KPair K mg "ZERO" Q0) (Zo : KPair K mg "ONE" Q1) (GT : FnC P w K mg base 4 "time_within" C_within) (GK : FnC P w K mg base 3 "knots_of" C_knots) (GA : FnC P w K mg base 2 "_knot_ahead" C_ahead) (GW : FnC P w K mg base 4 "_weight" C_weight) {f : Addr} {fd : FuncData} (F : Fun K "weights" "weights" s_weights f fd) (hm : mg "weights" = some (.ref f)) (hb : Binds K fd ["degree", "marks", "time"] []) : FnC P w K mg base 5 "weights" C_weights := by
  refine fnC F sc_weights hm hb (fun As m Kt ⟨d, A, Bs, qs, T, t, r, h, _⟩ => by rw [h]; rfl) fun X a As m Kt ⟨d, A, Bs, qs, T, t, r, e1, hs, hv, hT, hr, q⟩ => ?_
  subst e1
  obtain ⟨hg, hr⟩ := guardO_some hr
  simp only [Bool.and_eq_true, decide_eq_true_eq] at hg
  obtain ⟨⟨hne, hlen⟩, hw⟩ := hg
  have hne : qs ≠ [] := fun z => by subst z; cases hne
  obtain ⟨h, h1, hr⟩ := Option.bind_eq_some_iff.mp hr
  have kl := knotsM_len d qs
  refine wss_cons ?_
  refine ws_set a 3 rfl (.inr ⟨rfl, rfl⟩) ?_
  refine we_call a GT (by decide) rfl ?_
  refine wa_cons ?_
  refine we_name a 1 rfl (.inl rfl) rfl ?_
  refine wa_cons ?_
  refine we_name a 2 rfl (.inl rfl) rfl ?_
  refine wa_nil ?_
  refine ⟨[], m, rfl, _, _, _, _, _, rfl, hs, hv, hT, hne, hw, ?_⟩
  refine wss_cons ?_
  refine ws_set a 4 rfl (.inr ⟨rfl, rfl⟩) ?_
  refine we_call a GK (by decide) rfl ?_
  refine wa_cons ?_
  refine we_name a 0 rfl (.inl rfl) rfl ?_
  refine wa_cons ?_
  refine we_name a 1 rfl (.inl rfl) rfl ?_
  refine wa_nil ?_
  refine ⟨[], m, rfl, _, _, _, _, rfl, hs, hv, hne, hlen, ?_⟩
  refine wss_cons ?_
  refine ws_set a 5 rfl (.inr ⟨rfl, rfl⟩) ?_
  refine we_call a GA (by decide) rfl ?_
  refine wa_cons ?_
  refine we_name a 0 rfl (.inl rfl) rfl ?_
  refine wa_cons ?_
  refine we_name a 4 rfl (.inr (.inl rfl)) rfl ?_
  refine wa_cons ?_
  refine we_name a 3 rfl (.inr (.inl rfl)) rfl ?_
  refine wa_nil ?_
  refine ⟨[], m, rfl, _, _, _, _, rfl, h1, ?_⟩
  generalize hk : knotsM d qs = knots at *
  generalize hrow0 : ((List.range (knots.length - 1)).map fun (i : Nat) => if i = h then Q1 else Q0) = row0 at *
  have row0l : row0.length = knots.length - 1 := by rw [← hrow0]; simp
  refine wss_cons ?_
  refine ws_set a 6 rfl (.inr ⟨rfl, rfl⟩) ?_ (swF a rfl)
  refine WN.we (wn_lc1 a 8 (by decide +kernel) rfl rfl ?_)
  refine wi_range1 a rfl Z.range ?_
  refine we_sub ?_
  refine b_len a Z rfl ?_
  refine wa_cons ?_
  refine we_name a 4 rfl (.inr (.inl rfl)) rfl ?_
  refine wa_nil ?_
  refine ⟨_, _, rfl, isSq_tup, ?_⟩
  refine we_int ?_
  refine ⟨_, _, rfl, rfl, ?_⟩
  rw [List.length_map]
  refine ⟨_, rfl, by omega, ?_⟩
  refine ⟨by rw [rangeA_len]; omega, fun i acc m' => m' = m ∧ acc = (row0.map qv).take i, ⟨rfl, by simp⟩, fun i acc m2 A hA hW X' hX => ?_, fun acc m2 hW => ?_⟩
  · obtain ⟨rfl, rfl⟩ := hW
    have b := hX.at_ a
    obtain ⟨hi, rfl⟩ := rangeA_get hA
    have hi' : i < knots.length - 1 := by omega
    have gi : (row0.map qv)[i]? = some (qv (if i = h then Q1 else Q0)) := by
      rw [← hrow0, List.getElem?_map, List.getElem?_map, range_get hi']
      rfl
    refine we_ifexp ?_
    refine wt_icmp op_eqI rfl ?_
    refine we_name b 8 rfl (.inl rfl) rfl ?_
    refine we_name b 5 rfl (.inr (.inl rfl)) rfl ?_
    refine ⟨_, _, rfl, rfl, ?_⟩
    by_cases hh : i = h
    · refine brT (decide_eq_true (by omega)) ?_
      refine g_pair b Zo rfl ?_
      rw [if_pos hh] at gi
      exact ⟨rfl, (take_snoc gi).symm⟩
    · refine brF (decide_eq_false (by omega)) ?_
      refine g_pair b Zz rfl ?_
      rw [if_neg hh] at gi
      exact ⟨rfl, (take_snoc gi).symm⟩
  · obtain ⟨rfl, rfl⟩ := hW
    rw [List.take_of_length_le (by rw [rangeA_len, List.length_map, row0l]; omega)]
    refine wss_cons ?_
    refine ws_for a (fun i ρ' m' => m' = m2 ∧ ∃ row y, ((List.range d).take i).foldlM (rowO knots t) row0 = some row ∧ row.length + i = knots.length - 1 ∧ ρ' = [some (AL.int d), some A, some T, some (qv t), some (tup (knots.map qv)), some (AL.int h), some (lst (row.map qv)), y, none]) ?_
    refine wi_range2 a rfl Z.range ?_
    refine we_int ?_
    refine we_add ?_
    refine we_name a 0 rfl (.inl rfl) rfl ?_
    refine we_int ?_
    refine ⟨_, _, rfl, rfl, ?_⟩
    refine ⟨_, _, rfl, rfl, by omega, ?_⟩
    have ed : ((d : Int) + 1 - 1).toNat = d := by omega
    rw [ed]
    refine ⟨⟨rfl, row0, none, rfl, by omega, rfl⟩, fun i B ρ' m' hB hW => ?_, fun ρ' m' hW => ?_⟩
    · obtain ⟨rfl, row, y, hrow, hrl, rfl⟩ := hW
      obtain ⟨hi, rfl⟩ := rangeA_get hB
      obtain ⟨row', hz, hz2⟩ := foldlM_step hr hrow (range_get hi)
      obtain ⟨ml, mg'⟩ := mapM_get hz
      rw [List.length_range] at ml
      refine wg_name a 7 rfl (.inr ⟨rfl, rfl⟩) ?_
      refine wss_cons ?_
      refine ws_set a 6 rfl (.inr ⟨rfl, rfl⟩) ?_ (swF a rfl)
      refine WN.we (wn_lc1 a 8 (by decide +kernel) rfl rfl ?_)
      refine wi_range1 a rfl Z.range ?_
      refine we_sub ?_
      refine b_len a Z rfl ?_
      refine wa_cons ?_
      refine we_name a 6 rfl (.inr (.inl rfl)) rfl ?_
      refine wa_nil ?_
      refine ⟨_, _, rfl, isSq_lst, ?_⟩
      refine we_int ?_
      refine ⟨_, _, rfl, rfl, ?_⟩
      rw [List.length_map]
      refine ⟨_, rfl, by omega, ?_⟩
      refine ⟨by rw [rangeA_len]; omega, fun n acc mm => mm = m' ∧ acc = (row'.map qv).take n, ⟨rfl, by simp⟩, fun n acc mm A' hA hW X' hX => ?_, fun acc mm hW => ?_⟩
      · obtain ⟨rfl, rfl⟩ := hW
        have b := hX.at_ a
        obtain ⟨hn, rfl⟩ := rangeA_get hA
        obtain ⟨yv, hy1, hy2⟩ := mg' n n (range_get (by omega))
        refine we_call b GW (by decide) rfl ?_
        refine wa_cons ?_
        refine we_name b 6 rfl (.inr (.inl rfl)) rfl ?_
        refine wa_cons ?_
        refine we_name b 4 rfl (.inr (.inl rfl)) rfl ?_
        refine wa_cons ?_
        refine we_name b 8 rfl (.inl rfl) rfl ?_
        refine wa_cons ?_
        refine we_name b 7 rfl (.inr (.inl rfl)) rfl ?_
        refine wa_cons ?_
        refine we_name b 3 rfl (.inr (.inl rfl)) rfl ?_
        refine wa_nil ?_
        refine ⟨[], mm, rfl, row, knots, n, i + 1, t, yv, ?_, hy1, ?_⟩
        · have x1 : (0 : Int) + (n : Int) = (n : Int) := by omega
          have x2 : (1 : Int) + (i : Int) = ((i + 1 : Nat) : Int) := by omega
          rw [x1, x2]
        · exact ⟨rfl, (take_snoc (by rw [List.getElem?_map, hy2]; rfl)).symm⟩
      · obtain ⟨rfl, rfl⟩ := hW
        rw [List.take_of_length_le (l := row'.map qv) (by rw [rangeA_len, List.length_map, ml]; omega)]
        refine wss_nil ?_
        refine ⟨rfl, row', _, hz2, by omega, rfl⟩
    · obtain ⟨rfl, row, y, hrow, hrl, rfl⟩ := hW
      rw [rangeA_len] at hrow
      have e2 : (List.range d).take d = List.range d := List.take_of_length_le (by simp)
      rw [e2] at hrow
      have e3 : row = r := Option.some.inj (hrow.symm.trans hr)
      subst e3
      refine wss_cons ?_
      refine ws_ret ?_
      refine b_tuple a Z rfl ?_
      refine wa_cons ?_
      refine we_name a 6 rfl (.inr (.inl rfl)) rfl ?_
      refine wa_nil ?_
      refine .inl ⟨_, _, rfl, isLs_lst, ?_⟩
      exact bodyE.ret q
end
end HB
namespace HB
open PySem PySem.Spec L2 AL
open PyProof.Rows hiding St
/-- the class Bend as it stands behind the top -/
structure BendF (K : PySem.W.Frag) (C : Addr) : Prop where
  cls : L2.Cls K C
  deg : NoAttr K C "degree"
  mar : NoAttr K C "marks"
  han : NoAttr K C "handles"
abbrev bendF (d : Nat) (qs hs : List Q2) : List (Str × AV) := [("degree", AL.int d), ("marks", tup (qs.map qv)), ("handles", tup (hs.map qv))]
abbrev bendV (C : Addr) (d : Nat) (qs hs : List Q2) : AV := ins C (bendF d qs hs)
def Norm (q : Q2) : Prop := 1 ≤ q.2 ∧ Nat.gcd q.1.natAbs q.2.natAbs = 1
theorem norm_v {q : Q2} (h : Norm q) : IsV (qv q) q := .pr q.1 q.2 h.1 h.2
theorem norm_vs : ∀ {qs : List Q2}, (∀ q ∈ qs, Norm q) → IsVs (qs.map qv) qs
  | [], _ => .nil
  | q :: qs, h => .cons (norm_v (h q List.mem_cons_self)) (norm_vs fun z hz => h z (List.mem_cons_of_mem _ hz))
def valueO (d : Nat) (qs hs : List Q2) (t : Q2) : Option Q2 := (weightsO d qs t).bind fun ws => ((hs.zip ws).mapM fun p => mulO p.1 p.2).bind totalO
def cutQ (l : List Q2) (a b : Nat) : List Q2 := (l.drop (min a l.length)).take (min b l.length - min a l.length)
def homeO (d : Nat) (qs : List Q2) (i : Nat) : Option Q2 := (totalO (cutQ (knotsM d qs) (i + 1) (i + 1 + d))).bind fun s => divO s ((d : Int), 1)
def homesO (d : Nat) (qs hs : List Q2) : Option (List Q2) :=
  if d = 0 then (addO (qs.headD Q0) (qs.getLastD Q0)).bind fun s => (divO s (2, 1)).bind fun r => some [r]
  else (List.range hs.length).mapM (homeO d qs)
section
variable {P : Program} {w : World} {K : PySem.W.Frag} {mg : Str → Option Value} {base : Heap} (Z : Blt mg)
variable {N : List Str} {sc : Scope} {df : Bool} {k : Nat} {X : Cx} {ρ : Rho} {m : Mem} {Kt : KA} {pos : Pos} {e f : Expr} {C : Addr}
theorem fldA (a : At P w K mg base N sc df k X) {fl : Str} (cl : L2.Cls K C) (na : NoAttr K C fl) (h : WE X e ρ m fun A m1 => ∃ fs B, A = ins C fs ∧ fs.lookup fl = some B ∧ Kt B m1) (hb : attributeBase e fl X.env (eval e X.env) = eval e X.env := by rfl) : WE X (.Attribute e fl pos) ρ m Kt :=
  we_fld (h.mono fun A m1 ⟨fs, B, e1, e2, q⟩ => ⟨C, fs, B, e1, by rw [a.kt]; exact cl, by rw [a.kt]; exact na, e2, q⟩) hb
include Z in
/-- len of an instance -/
theorem we_lenOwn (a : At P w K mg base N sc df k X) {j : Nat} {p : Pos} {Cn : CT} (M : MethC P w K mg base j C "__len__" Cn) (hj : j + 1 ≤ k) (hg : sc.names.lookup ("len" : Str) = some .globalImplicit)
    (h : WE X e ρ m fun A m1 => ∃ fs, A = ins C fs ∧ Cn [A] [] fun B m' => m' = [] ∧ ∃ n : Int, B = AL.int n ∧ 0 ≤ n ∧ n < 2 ^ 63 ∧ Kt (AL.int n) m1)
    (he : starEach (e :: []) X.env = (false, eval e X.env) :: starEach [] X.env := by rfl) (hpl : (backTo pos (starEach [] X.env)).any (·.1) = false := by rfl) : WE X (.Call (.Name "len" p) [e] [] pos) ρ m Kt := by
  intro fr σ H o Q g
  obtain ⟨gd, fd, ps, h1, h2, hb, F⟩ := M
  have hr := a.room.mono hj
  have hgl := gl_of a hg
  have hmm : X.mg "len" = none := by rw [a.mt]; exact Z.len
  obtain ⟨rfl, rfl, rfl, rfl, rfl, _⟩ := a
  refine le_E (pe_callB (call_lenOwn h1 h2 hb F hr) hgl hmm PySem.boot_len (pa_cons wpE_pe pa_nil he) (by decide) (by decide) he hpl) ?_
  refine h.to o fun A m1 v H1 ⟨fs, ea, hC⟩ x1 o1 r1 => ?_
  subst ea
  have r1' := r1
  obtain ⟨q, dx, vs, rfl, hq, nq, rf⟩ := r1
  refine ⟨q, dx, vs, rfl, hq, ?_⟩
  obtain ⟨gf, e1, mv, back⟩ := MemV.call (m1 := []) (m2 := m1) o1.mem
  have hmm2 := split_ms (fr := fr) (m1 := []) e1
  refine ⟨gf ++ fr, [ins C fs], [], _, hC, mv, .cons ((ins C fs).st r1' (.same fun x z => (hmm2 x).mp z)) .nil, fun B m' u H' ⟨em, n, eb, n0, n1, kk⟩ x2 mv2 rb => ?_⟩
  subst em eb
  have x4 : Ext (Ms fr m1) H1 (Ms fr m1) H' := ((Ext.same fun x z => (hmm2 x).mp z).trans x2).trans (.same fun x z => (hmm2 x).mpr z)
  exact ⟨n, rb, n0, n1, g _ m1 _ H' kk (x1.trans x4) ⟨o1.env.st x4, back [] H' x2 mv2⟩ rfl⟩
/-! ### Bend.__len__ -/
def C_blen (C : Addr) : CT := fun As m Kt => ∃ d qs hs, As = [bendV C d qs hs] ∧ Kt (AL.int (hs.length : Nat)) m
abbrev s_blen : Stmt := inClass (topS 34) 2
theorem sc_blen : FnScope ["self"] ["self"] (defScope s_blen) := ⟨rfl, rfl, rfl, by decide +kernel, rfl, by decide +kernel, by decide +kernel⟩
include Z in
theorem M_blen (B : BendF K C) {g : Addr} {fd : FuncData} (F : Fun K "__len__" "Bend.__len__" s_blen g fd) (h1 : PySem.W.findIn K (.ref C) "__len__" = some (some (.ref g))) (h2 : PySem.W.isFn K (.ref g) = true) (hb : L2.Binds K fd ["self"] []) : MethC P w K mg base 1 C "__len__" (C_blen C) := by
  refine ⟨g, fd, ["self"], h1, h2, hb, fnOk F sc_blen (fun As m Kt ⟨d, qs, hs, h, _⟩ => by rw [h]; rfl) fun X a As m Kt ⟨d, qs, hs, e1, q⟩ => ?_⟩
  subst e1
  refine wss_cons ?_
  refine ws_ret ?_
  refine b_len a Z rfl ?_
  refine wa_cons ?_
  refine fldA a B.cls B.han ?_
  refine we_name a 0 rfl (.inl rfl) rfl ?_
  refine ⟨_, _, rfl, rfl, ?_⟩
  refine wa_nil ?_
  refine ⟨_, _, rfl, isSq_tup, ?_⟩
  rw [List.length_map]
  exact bodyE.ret q
/-! ### homes -/
def C_homes (C : Addr) : CT := fun As m Kt => ∃ (d : Nat) (qs hs r : List Q2), As = [bendV C d qs hs] ∧ (∀ q ∈ qs, Norm q) ∧ qs ≠ [] ∧ qs.length + 2 * d ≤ 900 ∧ hs.length ≤ 900 ∧ homesO d qs hs = some r ∧ Kt (tup (r.map qv)) m
theorem cut_map {l : List Q2} {a b : Nat} {x y : Int} (hx : x = (a : Int)) (hy : y = (b : Int)) : cutA (l.map qv) (some x) (some y) = (cutQ l a b).map qv := by
  subst hx hy
  unfold cutA cutQ
  rw [HT.sIx_nat, HT.sIx_nat, List.length_map, List.map_take, List.map_drop]
/-! ### handle_count -/
def C_count : CT := fun As m Kt => ∃ (d : Nat) (A : AV) (Bs : List AV), As = [AL.int d, A] ∧ IsSeqA A Bs ∧ Kt (AL.int ((d : Int) + (Bs.length : Nat) - 1)) m
abbrev s_handle_count : Stmt := topS 37
theorem sc_handle_count : FnScope ["degree", "marks"] ["degree", "marks"] (defScope s_handle_count) := ⟨rfl, rfl, rfl, by decide +kernel, rfl, by decide +kernel, by decide +kernel⟩
include Z in
theorem F_handle_count {f : Addr} {fd : FuncData} (F : Fun K "handle_count" "handle_count" s_handle_count f fd) (hm : mg "handle_count" = some (.ref f)) (hb : Binds K fd ["degree", "marks"] []) : FnC P w K mg base 1 "handle_count" C_count := by
  refine fnC F sc_handle_count hm hb (fun As m Kt ⟨d, A, Bs, h, _⟩ => by rw [h]; rfl) fun X a As m Kt ⟨d, A, Bs, e1, hs, q⟩ => ?_
  subst e1
  refine wss_cons ?_
  refine ws_ret ?_
  refine we_sub ?_
  refine we_add ?_
  refine we_name a 0 rfl (.inl rfl) rfl ?_
  refine b_len a Z rfl ?_
  refine wa_cons ?_
  refine we_name a 1 rfl (.inl rfl) rfl ?_
  refine wa_nil ?_
  refine ⟨_, _, rfl, hs.sq, ?_⟩
  refine ⟨_, _, rfl, rfl, ?_⟩
  refine we_int ?_
  refine ⟨_, _, rfl, rfl, ?_⟩
  exact bodyE.ret q
end
end HB
namespace AL
open PySem PySem.Spec L2
open PyProof.Rows hiding St
section
variable {P : Program} {w : World} {K : PySem.W.Frag} {mg : Str → Option Value} {base : Heap} {N : List Str} {sc : Scope} {df : Bool} {k : Nat} {X : Cx}
variable {ρ : Rho} {m : Mem} {Kt : KA} {pos : Pos} {E : EndsA}
theorem swap_two (a : At P w K mg base N sc df k X) {x y : Str} {e f : Expr} {px py pt : Pos} {kt k2 pt2} (hk : sc.kind = .function) (hx : sc.names.lookup x = some .local) (hy : sc.names.lookup y = some .local) (hne : (x == y) = false)
    (hl : (py.line == px.line) = true) (hst : ([e, f].any fun | .Starred .. => true | _ => false) = false) (h1 : [e, f].all (foldedForSure 8) = false) (h2 : [e, f].all (constantsAlone 8) = false) :
    swappedStores [.Tuple [.Name x px, .Name y py] kt pt] (.Tuple [e, f] k2 pt2) X.env = pure (some [x, y]) := by
  have kx : X.env.kindOf x = some .local := by show X.env.scope.names.lookup x = _; rw [a.sce]; exact hx
  have ky : X.env.kindOf y = some .local := by show X.env.scope.names.lookup y = _; rw [a.sce]; exact hy
  have kf : X.env.blockKind = .function := by unfold Env.blockKind; rw [a.sce, hk]; rfl
  have e1 : ((some NameKind.local : Option NameKind) == some NameKind.local) = true := by decide
  have e2 : (px.line == px.line) = true := by simp
  have e3 : (Expr.Name x px).pos = px := rfl
  have ed : ([x, y] : List Str).eraseDups = [x, y] := by
    have hne' : (y == x) = false := by
      rw [beq_eq_false_iff_ne] at hne ⊢
      exact fun z => hne z.symm
    simp [List.eraseDups_cons, hne, hne']
  unfold swappedStores
  simp only [kf, hst, h1, h2, kx, ky, e1, e3, hl, e2, List.head?_cons, Option.map_some, Option.getD_some, List.filterMap_cons, List.filterMap_nil, Bool.and_self, if_true, ed]
  simp
  intro hc
  simp only [List.any_cons, List.any_nil, Bool.or_false, Bool.or_eq_false_iff] at hst
  rcases hc with hc | hc
  · exact absurd (hst.1.symm.trans hc) Bool.false_ne_true
  · exact absurd (hst.2.symm.trans hc) Bool.false_ne_true
theorem ws_par (a : At P w K mg base N sc df k X) (i j : Nat) {x y : Str} {e f : Expr} {px py pt : Pos} {kt k2 pt2} (hi : N[i]? = some x) (hj : N[j]? = some y) (hij : i ≠ j) (hk : sc.kind = .function) (hx : sc.names.lookup x = some .local) (hy : sc.names.lookup y = some .local) (hne : (x == y) = false)
    (hl : (py.line == px.line) = true) (hst : ([e, f].any fun | .Starred .. => true | _ => false) = false) (h1 : [e, f].all (foldedForSure 8) = false) (h2 : [e, f].all (constantsAlone 8) = false)
    (h : WA X [e, f] ρ m fun As m1 => ∃ A B, As = [A, B] ∧ E.nx ((ρ.set i (some A)).set j (some B)) m1)
    (hs : swapsWithSole [.Tuple [.Name x px, .Name y py] kt pt] (.Tuple [e, f] k2 pt2) pos.line X.env = pure false := by rfl) : WS X (.Assign [.Tuple [.Name x px, .Name y py] kt pt] (.Tuple [e, f] k2 pt2) pos) ρ m E := by
  intro fr σ H o D g
  refine le_S (ps_par (i := i) (j := j) a.calm (by rw [a.nm]; exact a.nd) (by rw [a.nm]; exact hi) (by rw [a.nm]; exact hj) hij (by rw [a.sce]; exact hx) (by rw [a.sce]; exact hy) wpA_pa (swap_two a hk hx hy hne hl hst h1 h2) hs) ?_
  refine h fr σ H o _ fun As m1 vs H1 ⟨A, B, e1, q⟩ x1 o1 r1 => ?_
  subst e1
  cases r1 with
  | cons ra r1 =>
    cases r1 with
    | cons rb r1 =>
      cases r1
      exact ⟨_, _, rfl, g.nx _ m1 _ H1 q x1 ⟨(o1.env.set ra i).set rb j, o1.mem⟩⟩
/-- a new list is handed out: it may be changed by the caller -/
theorem ws_retN {e : Expr} (h : WN X e ρ m fun As m1 => ∀ q, E.rt (val (.ref q)) (m1 ++ [(q, .l As)])) : WS X (.Return (some e) pos) ρ m E := by
  intro fr σ H o D g
  refine le_S (ps_ret wpE_pe) (h fr σ H o _ fun As m' q vs H' k x1 o' r => ?_)
  have hms : ∀ z, z ∈ Ms fr (m' ++ [(q, .l As)]) ↔ z ∈ Ms ((q, .lst vs) :: fr) m' := fun z => by
    unfold Ms
    simp only [List.map_append, List.map_cons, List.map_nil, List.mem_append, List.mem_cons, List.not_mem_nil, or_false]
    constructor
    · rintro (h | h | h)
      · exact .inl (.inr h)
      · exact .inr h
      · exact .inl (.inl h)
    · rintro ((h | h) | h)
      · exact .inr (.inr h)
      · exact .inl h
      · exact .inr (.inl h)
  have xs : Ext (Ms ((q, .lst vs) :: fr) m') H' (Ms fr (m' ++ [(q, .l As)])) H' := .same fun z hz => (hms z).mp hz
  have nq := (List.nodup_cons.mp o'.mem.nd).1
  refine g.rt _ _ _ H' (k q) (x1.trans xs) ⟨fun b v z => o'.mem.frm b v (List.mem_cons_of_mem _ z), fun b c z => ?_, nd_snoc (List.nodup_cons.mp o'.mem.nd).2 nq⟩ rfl
  rcases List.mem_append.mp z with z | z
  · obtain ⟨v, e, r'⟩ := o'.mem.at_ b c z
    exact ⟨v, e, r'.st xs⟩
  · rw [List.mem_singleton] at z
    cases z
    exact ⟨_, o'.mem.frm _ _ List.mem_cons_self, AllV.st r xs⟩
/-- one of the two names is captured: no swap -/
theorem swap_no (a : At P w K mg base N sc df k X) {x y : Str} {e f : Expr} {px py pt : Pos} {kt k2 pt2} (hk : sc.kind = .function) (hx : sc.names.lookup x = some .local) (hy : sc.names.lookup y = some .cell) :
    swappedStores [.Tuple [.Name x px, .Name y py] kt pt] (.Tuple [e, f] k2 pt2) X.env = pure none := by
  have kx : X.env.kindOf x = some .local := by show X.env.scope.names.lookup x = _; rw [a.sce]; exact hx
  have ky : X.env.kindOf y = some .cell := by show X.env.scope.names.lookup y = _; rw [a.sce]; exact hy
  have kf : X.env.blockKind = .function := by unfold Env.blockKind; rw [a.sce, hk]; rfl
  have e1 : ((some NameKind.local : Option NameKind) == some NameKind.local) = true := by decide
  have e2 : ((some NameKind.cell : Option NameKind) == some NameKind.local) = false := by decide
  have e3 : (Expr.Name x px).pos = px := rfl
  have e4 : (px.line == px.line) = true := by simp
  unfold swappedStores
  simp only [kf, kx, ky, e1, e2, e3, e4, List.head?_cons, Option.map_some, Option.getD_some, List.filterMap_cons, List.filterMap_nil, Bool.false_and, Bool.true_and, Bool.false_eq_true, if_false, if_true]
  simp
end
end AL
namespace HB
open PySem PySem.Spec L2 AL
open PyProof.Rows hiding St
def tailQ (l : List Q2) (a : Nat) : List Q2 := (l.drop (min a l.length)).take (l.length - min a l.length)
def innerM (qs : List Q2) : List Q2 := cutQ qs 1 (qs.length - 1)
def marksO (d : Nat) (qs : List Q2) : Bool :=
  decide (2 ≤ qs.length) && decide (qs.length ≤ 900) && (lessO (qs.getD 0 Q0) (qs.getD 1 Q0) == some true) && (lessO (qs.getD (qs.length - 2) Q0) (qs.getD (qs.length - 1) Q0) == some true)
    && ((innerM qs).zip (tailQ (innerM qs) 1)).all (fun p => lessO p.2 p.1 == some false) && ((innerM qs).zip (tailQ (innerM qs) d)).all (fun p => decide (p.1 ≠ p.2))
section
variable {P : Program} {w : World} {K : PySem.W.Frag} {mg : Str → Option Value} {base : Heap} (Z : Blt mg)
variable {N : List Str} {sc : Scope} {df : Bool} {k : Nat} {X : Cx} {ρ : Rho} {m : Mem} {Kt : KA} {pos : Pos} {e f : Expr} {C : Addr}
theorem at_neg {l : List Q2} {n : Nat} {z : Int} {q : Q2} (hn : 0 < n) (hl : n ≤ l.length) (h : l[l.length - n]? = some q) (hz : z = -(n : Int)) : L2.atI (l.map qv) z = some (qv q) := by
  subst hz
  have e : ixN (l.map qv).length (-(n : Int)) = some (l.length - n) := by
    unfold ixN
    rw [if_neg (by omega), List.length_map, if_pos (by omega)]
    congr 1
    omega
  unfold L2.atI
  rw [e]
  show (l.map qv)[l.length - n]? = _
  rw [List.getElem?_map, h]
  rfl
theorem getD_some {l : List Q2} {n : Nat} (h : n < l.length) : l[n]? = some (l.getD n Q0) := by
  rw [List.getD_eq_getElem?_getD, List.getElem?_eq_getElem h]
  rfl
theorem cut_in {l : List Q2} (h : 2 ≤ l.length) : cutA (l.map qv) (some 1) (some (-1)) = (innerM l).map qv := by
  unfold cutA innerM cutQ
  have e1 : HT.sIx (l.map qv).length 0 (some 1) = min 1 l.length := by rw [List.length_map]; exact HT.sIx_nat _ _ 1
  have e2 : HT.sIx (l.map qv).length (l.map qv).length (some (-1)) = min (l.length - 1) l.length := by
    show (if (-1 : Int) < 0 then ((-1 : Int) + ((l.map qv).length : Nat)).toNat else min (-1 : Int).toNat (l.map qv).length) = _
    rw [if_pos (by decide), List.length_map]
    omega
  rw [e1, e2, List.map_take, List.map_drop]
theorem cut_tail {l : List Q2} {a : Nat} {x : Int} (h : x = (a : Int)) : cutA (l.map qv) (some x) none = (tailQ l a).map qv := by
  subst h
  unfold cutA tailQ
  rw [HT.sIx_nat, HT.sIx_none, List.length_map, List.map_take, List.map_drop]
/-! ### _are_marks -/
def C_are_marks : CT := fun As m Kt => ∃ (d : Nat) (A : AV) (Bs : List AV) (qs : List Q2), As = [AL.int d, A] ∧ IsSeqA A Bs ∧ IsVs Bs qs ∧ marksO d qs = true ∧ Kt (AL.bool true) m
abbrev s_are_marks : Stmt := topS 35
theorem sc_are_marks : FnScope ["degree", "marks", "row", "inner", "early", "late"] ["degree", "marks"] (defScope s_are_marks) := ⟨rfl, rfl, rfl, by decide +kernel, rfl, by decide +kernel, by decide +kernel⟩
theorem rep_false {n : Nat} : (List.replicate n false).any id = false := by simp
theorem zip_all {p : Q2 × Q2 → Bool} {xs ys : List Q2} (h : (xs.zip ys).all p = true) {i : Nat} {x y : Q2} (hx : xs[i]? = some x) (hy : ys[i]? = some y) : p (x, y) = true := by
  rw [List.all_eq_true] at h
  exact h _ (List.mem_of_getElem? (List.getElem?_zip_eq_some.mpr ⟨hx, hy⟩))
include Z in
theorem F_are_marks (GV : FnC P w K mg base 3 "are_values" C_are_values) (GP : FnC P w K mg base 2 "pairs" C_pairs) (GL : FnC P w K mg base 1 "is_less" C_lessO) {f : Addr} {fd : FuncData} (F : Fun K "_are_marks" "_are_marks" s_are_marks f fd) (hm : mg "_are_marks" = some (.ref f)) (hb : Binds K fd ["degree", "marks"] []) : FnC P w K mg base 4 "_are_marks" C_are_marks := by
  refine fnC F sc_are_marks hm hb (fun As m Kt ⟨d, A, Bs, qs, h, _⟩ => by rw [h]; rfl) fun X a As m Kt ⟨d, A, Bs, qs, e1, hs, hv, hk, q⟩ => ?_
  subst e1
  unfold marksO at hk
  simp only [Bool.and_eq_true, decide_eq_true_eq, beq_iff_eq] at hk
  obtain ⟨⟨⟨⟨⟨h2, h900⟩, hl1⟩, hl2⟩, hz1⟩, hz2⟩ := hk
  have ql : Bs.length = qs.length := Paired.length hv
  generalize hin : innerM qs = inn at *
  have il : inn.length ≤ 900 := by rw [← hin]; unfold innerM cutQ; simp; omega
  refine wss_cons ?_
  refine ws_if ?_
  refine wt_of ?_
  refine ww_or ?_
  refine wt_not ?_
  refine wt_val ?_
  refine we_call a GV (by decide) rfl ?_
  refine wa_cons ?_
  refine we_name a 1 rfl (.inl rfl) rfl ?_
  refine wa_nil ?_
  refine ⟨[], m, rfl, _, _, _, rfl, hs, hv, by omega, ?_⟩
  refine ⟨_, rfl, ?_⟩
  refine brF rfl ?_
  refine ww_or1 ?_
  refine wt_icmp op_lt rfl ?_
  refine b_len a Z rfl ?_
  refine wa_cons ?_
  refine we_name a 1 rfl (.inl rfl) rfl ?_
  refine wa_nil ?_
  refine ⟨_, _, rfl, hs.sq, ?_⟩
  refine we_int ?_
  refine ⟨_, _, rfl, rfl, ?_⟩
  refine brF (decide_eq_false (by omega)) ?_
  refine wss_nil ?_
  refine wss_cons ?_
  refine ws_set a 2 rfl (.inl rfl) ?_
  refine we_call a GP (by decide) rfl ?_
  refine wa_cons ?_
  refine we_name a 1 rfl (.inl rfl) rfl ?_
  refine wa_nil ?_
  refine ⟨[], m, rfl, _, _, _, rfl, hs, hv, by omega, ?_⟩
  refine wss_cons ?_
  refine ws_set a 3 rfl (.inl rfl) ?_
  refine we_tsl ?_
  refine we_name a 2 rfl (.inl rfl) rfl ?_
  show WE _ _ _ _ _
  refine we_int ?_
  refine ⟨_, rfl, ?_⟩
  show WE _ _ _ _ _
  refine we_neg ?_
  refine we_int ?_
  refine ⟨_, rfl, ?_⟩
  refine ⟨_, rfl, ?_⟩
  refine ⟨_, rfl, ?_⟩
  rw [cut_in h2, hin]
  refine wss_cons ?_
  refine ws_if ?_
  refine wt_of ?_
  refine ww_or ?_
  refine wt_not ?_
  refine wt_val ?_
  refine we_call a GL (by decide) rfl ?_
  refine wa_cons ?_
  refine we_ix ?_
  refine we_name a 2 rfl (.inl rfl) rfl ?_
  refine we_int ?_
  refine ⟨_, _, _, isSq_tup, rfl, atN (getD_some (n := 0) (by omega)) rfl, ?_⟩
  refine wa_cons ?_
  refine we_ix ?_
  refine we_name a 2 rfl (.inl rfl) rfl ?_
  refine we_int ?_
  refine ⟨_, _, _, isSq_tup, rfl, atN (getD_some (n := 1) (by omega)) rfl, ?_⟩
  refine wa_nil ?_
  refine ⟨[], m, rfl, _, _, _, rfl, hl1, ?_⟩
  refine ⟨_, rfl, ?_⟩
  refine brF rfl ?_
  refine ww_or1 ?_
  refine wt_not ?_
  refine wt_val ?_
  refine we_call a GL (by decide) rfl ?_
  refine wa_cons ?_
  refine we_ix ?_
  refine we_name a 2 rfl (.inl rfl) rfl ?_
  refine we_neg ?_
  refine we_int ?_
  refine ⟨_, rfl, ?_⟩
  refine ⟨_, _, _, isSq_tup, rfl, at_neg (n := 2) (by omega) (by omega) (getD_some (by omega)) rfl, ?_⟩
  refine wa_cons ?_
  refine we_ix ?_
  refine we_name a 2 rfl (.inl rfl) rfl ?_
  refine we_neg ?_
  refine we_int ?_
  refine ⟨_, rfl, ?_⟩
  refine ⟨_, _, _, isSq_tup, rfl, at_neg (n := 1) (by omega) (by omega) (getD_some (by omega)) rfl, ?_⟩
  refine wa_nil ?_
  refine ⟨[], m, rfl, _, _, _, rfl, hl2, ?_⟩
  refine ⟨_, rfl, ?_⟩
  refine brF rfl ?_
  refine wss_nil ?_
  refine wss_cons ?_
  refine ws_if ?_
  refine wt_val ?_
  refine b_any a Z rfl ?_
  refine wa_cons ?_
  refine WN.we (wn_lc2 a 4 5 (by decide +kernel) (by decide) rfl rfl rfl rfl ?_)
  refine wi_zip a rfl Z.zip ?_
  refine we_name a 3 rfl (.inl rfl) rfl ?_
  refine we_tsl ?_
  refine we_name a 3 rfl (.inl rfl) rfl ?_
  show WE _ _ _ _ _
  refine we_int ?_
  refine ⟨_, rfl, ?_⟩
  refine ⟨_, rfl, ?_⟩
  rw [cut_tail (a := 1) (x := 1) rfl]
  refine ⟨_, _, .inr ⟨rfl, rfl⟩, ?_⟩
  refine ⟨_, _, rfl, by rw [pairA_len, List.length_map, List.length_map]; omega, fun i acc m' => m' = m ∧ acc = List.replicate i (AL.bool false), ⟨rfl, rfl⟩, fun i acc m2 A1 A2 hA1 hA2 hW X' hX => ?_, fun acc m2 hW => ?_⟩
  · obtain ⟨rfl, rfl⟩ := hW
    have b := hX.at_ a
    rw [List.getElem?_map] at hA1 hA2
    obtain ⟨x, hx, rfl⟩ := Option.map_eq_some_iff.mp hA1
    obtain ⟨y, hy, rfl⟩ := Option.map_eq_some_iff.mp hA2
    have hp := zip_all hz1 hx hy
    simp only [beq_iff_eq] at hp
    refine we_call b GL (by decide) rfl ?_
    refine wa_cons ?_
    refine we_name b 5 rfl (.inl rfl) rfl ?_
    refine wa_cons ?_
    refine we_name b 4 rfl (.inl rfl) rfl ?_
    refine wa_nil ?_
    refine ⟨[], _, rfl, _, _, _, rfl, hp, ?_⟩
    exact ⟨rfl, by rw [List.replicate_succ']⟩
  · obtain ⟨rfl, rfl⟩ := hW
    refine wa_nil ?_
    refine ⟨List.replicate _ false, by rw [List.map_replicate], ?_⟩
    refine ⟨_, rfl, ?_⟩
    refine brF rep_false ?_
    refine wss_nil ?_
    refine wss_cons ?_
    refine ws_ret ?_
    refine we_not ?_
    refine b_any a Z rfl ?_
    refine wa_cons ?_
    refine WN.we (wn_lc2 a 4 5 (by decide +kernel) (by decide) rfl rfl rfl rfl ?_)
    refine wi_zip a rfl Z.zip ?_
    refine we_name a 3 rfl (.inl rfl) rfl ?_
    refine we_tsl ?_
    refine we_name a 3 rfl (.inl rfl) rfl ?_
    show WE _ _ _ _ _
    refine we_name a 0 rfl (.inl rfl) rfl ?_
    refine ⟨_, rfl, ?_⟩
    refine ⟨_, rfl, ?_⟩
    rw [cut_tail (a := d) (x := (d : Int)) rfl]
    refine ⟨_, _, .inr ⟨rfl, rfl⟩, ?_⟩
    refine ⟨_, _, rfl, by rw [pairA_len, List.length_map, List.length_map]; omega, fun i acc m' => m' = m2 ∧ acc = List.replicate i (AL.bool false), ⟨rfl, rfl⟩, fun i acc m3 A1 A2 hA1 hA2 hW X' hX => ?_, fun acc m3 hW => ?_⟩
    · obtain ⟨rfl, rfl⟩ := hW
      have b := hX.at_ a
      rw [List.getElem?_map] at hA1 hA2
      obtain ⟨x, hx, rfl⟩ := Option.map_eq_some_iff.mp hA1
      obtain ⟨y, hy, rfl⟩ := Option.map_eq_some_iff.mp hA2
      have hp := zip_all hz2 hx hy
      simp only [decide_eq_true_eq] at hp
      refine we_cmp (op_eqD (hu_at b)) abs_eqD rfl ?_
      refine we_name b 4 rfl (.inl rfl) rfl ?_
      refine we_name b 5 rfl (.inl rfl) rfl ?_
      refine ⟨_, _, dat_q, dat_q, rfl, rfl, ?_⟩
      rw [eqv_q, decide_eq_false hp]
      exact ⟨rfl, by rw [List.replicate_succ']⟩
    · obtain ⟨rfl, rfl⟩ := hW
      refine wa_nil ?_
      refine ⟨List.replicate _ false, by rw [List.map_replicate], ?_⟩
      refine ⟨_, rfl, ?_⟩
      rw [rep_false]
      exact bodyE.ret q
/-! ### Bend(..) -/
def R_bend : List AV → KF → Prop := fun As k => ∃ (d : Nat) (A : AV) (Bs : List AV) (qs : List Q2) (D : AV) (Ds : List AV) (hs : List Q2), As = [AL.int d, A, D] ∧ IsSeqA A Bs ∧ IsVs Bs qs ∧ marksO d qs = true ∧ IsSeqA D Ds ∧ IsVs Ds hs ∧ hs.length ≤ 900 ∧ hs.length + 1 = d + qs.length ∧ k (bendF d qs hs)
abbrev s_binit : Stmt := inClass (topS 34) 0
theorem sc_binit : FnScope ["self", "degree", "marks", "handles"] ["self", "degree", "marks", "handles"] (defScope s_binit) := ⟨rfl, rfl, rfl, by decide +kernel, rfl, by decide +kernel, by decide +kernel⟩
include Z in
theorem C_bend (B : BendF K C) (GW : FnC P w K mg base 1 "is_whole" C_is_whole) (GM : FnC P w K mg base 4 "_are_marks" C_are_marks) (GV : FnC P w K mg base 3 "are_values" C_are_values) (GH : FnC P w K mg base 1 "handle_count" C_count) (GP : FnC P w K mg base 2 "pairs" C_pairs) (hm : mg "Bend" = some (.ref C))
    {g : Addr} {fd : FuncData} (F : Fun K "__init__" "Bend.__init__" s_binit g fd) (mk : L2.Mk K C g) (hb : L2.Binds K fd ["self", "degree", "marks", "handles"] []) : ClsC P w K mg base 5 "Bend" C R_bend := by
  refine ⟨B.cls, hm, fun As k k' ⟨d, A, Bs, qs, D, Ds, hs, e, h1, h2, h3, h4, h5, h6, h7, q⟩ kk => ⟨d, A, Bs, qs, D, Ds, hs, e, h1, h2, h3, h4, h5, h6, h7, kk _ q⟩, g, fd, _, mk, hb, ?_⟩
  refine fnOk F sc_binit (fun As m Kt ⟨q, Bs, e, _, ⟨_, _, _, _, _, _, _, e2, _⟩⟩ => by rw [e, e2]; rfl) fun X a As m Kt ⟨sf, Cs, e0, em, ⟨d, A, Bs, qs, D, Ds, hs, e1, hA, hv, hmk, hD, hv2, hl9, hcn, q⟩⟩ => ?_
  subst e0 em e1
  have ql : Bs.length = qs.length := Paired.length hv
  have dl : Ds.length = hs.length := Paired.length hv2
  have hmk' := hmk
  unfold marksO at hmk'
  simp only [Bool.and_eq_true, decide_eq_true_eq, beq_iff_eq] at hmk'
  have q9 : qs.length ≤ 900 := hmk'.1.1.1.1.2
  refine wss_cons ?_
  refine ws_if ?_
  refine wt_of ?_
  refine ww_or ?_
  refine wt_not ?_
  refine wt_val ?_
  refine we_call a GW (by decide) rfl ?_
  refine wa_cons ?_
  refine we_name a 1 rfl (.inl rfl) rfl ?_
  refine wa_nil ?_
  refine ⟨[], _, rfl, _, _, rfl, ty_int, by decide, ?_⟩
  refine ⟨_, rfl, ?_⟩
  refine brF rfl ?_
  refine ww_or1 ?_
  refine wt_icmp op_lt rfl ?_
  refine we_name a 1 rfl (.inl rfl) rfl ?_
  refine we_int ?_
  refine ⟨_, _, rfl, rfl, ?_⟩
  refine brF (decide_eq_false (by omega)) ?_
  refine wss_nil ?_
  refine wss_cons ?_
  refine ws_if ?_
  refine wt_not ?_
  refine wt_val ?_
  refine we_call a GM (by decide) rfl ?_
  refine wa_cons ?_
  refine we_name a 1 rfl (.inl rfl) rfl ?_
  refine wa_cons ?_
  refine we_name a 2 rfl (.inl rfl) rfl ?_
  refine wa_nil ?_
  refine ⟨[], _, rfl, d, _, _, _, rfl, hA, hv, hmk, ?_⟩
  refine ⟨_, rfl, ?_⟩
  refine brF rfl ?_
  refine wss_nil ?_
  refine wss_cons ?_
  refine ws_if ?_
  refine wt_of ?_
  refine ww_or ?_
  refine wt_not ?_
  refine wt_val ?_
  refine we_call a GV (by decide) rfl ?_
  refine wa_cons ?_
  refine we_name a 3 rfl (.inl rfl) rfl ?_
  refine wa_nil ?_
  refine ⟨[], _, rfl, _, _, _, rfl, hD, hv2, by omega, ?_⟩
  refine ⟨_, rfl, ?_⟩
  refine brF rfl ?_
  refine ww_or1 ?_
  refine wt_icmp op_neI rfl ?_
  refine b_len a Z rfl ?_
  refine wa_cons ?_
  refine we_name a 3 rfl (.inl rfl) rfl ?_
  refine wa_nil ?_
  refine ⟨_, _, rfl, hD.sq, ?_⟩
  refine we_call a GH (by decide) rfl ?_
  refine wa_cons ?_
  refine we_name a 1 rfl (.inl rfl) rfl ?_
  refine wa_cons ?_
  refine we_name a 2 rfl (.inl rfl) rfl ?_
  refine wa_nil ?_
  refine ⟨[], _, rfl, d, _, _, rfl, hA, ?_⟩
  refine ⟨_, _, rfl, rfl, ?_⟩
  refine brF (by rw [decide_eq_true (by omega)]; rfl) ?_
  refine wss_nil ?_
  refine wss_cons ?_
  refine ws_fld ?_
  refine we_name a 1 rfl (.inl rfl) rfl ?_
  refine we_name a 0 rfl (.inl rfl) rfl ?_
  refine ⟨sf, C, [], [], [], rfl, rfl, by rw [a.kt]; exact B.cls, by rw [a.kt]; exact B.deg, by show 0 < 1000; decide, rfl, ?_⟩
  refine wss_cons ?_
  refine ws_fld ?_
  refine we_call a GP (by decide) rfl ?_
  refine wa_cons ?_
  refine we_name a 2 rfl (.inl rfl) rfl ?_
  refine wa_nil ?_
  refine ⟨[], _, rfl, _, _, _, rfl, hA, hv, by omega, ?_⟩
  refine we_name a 0 rfl (.inl rfl) rfl ?_
  refine ⟨sf, C, _, [], [], rfl, rfl, by rw [a.kt]; exact B.cls, by rw [a.kt]; exact B.mar, by show 1 < 1000; decide, rfl, ?_⟩
  refine wss_cons ?_
  refine ws_fld ?_
  refine we_call a GP (by decide) rfl ?_
  refine wa_cons ?_
  refine we_name a 3 rfl (.inl rfl) rfl ?_
  refine wa_nil ?_
  refine ⟨[], _, rfl, _, _, _, rfl, hD, hv2, by omega, ?_⟩
  refine we_name a 0 rfl (.inl rfl) rfl ?_
  refine ⟨sf, C, _, [], [], rfl, rfl, by rw [a.kt]; exact B.cls, by rw [a.kt]; exact B.han, by show 2 < 1000; decide, rfl, ?_⟩
  refine wss_nil ?_
  exact ⟨_, [], by simp, q⟩
end
end HB
namespace HB
open PySem PySem.Spec L2 AL
open PyProof.Rows hiding St
/-! things that move: two bends over one stretch -/
abbrev C_like (C : Addr) : CT := fun As m Kt => ∃ (D1 H1 D2 H2 : AV) (m1 m2 : List Q2) (x y : Q2), As = [ins C [("degree", D1), ("marks", tup (m1.map qv)), ("handles", H1)], ins C [("degree", D2), ("marks", tup (m2.map qv)), ("handles", H2)]] ∧ L2.atI m1 0 = some x ∧ L2.atI m2 0 = some x ∧ L2.atI m1 (-1) = some y ∧ L2.atI m2 (-1) = some y ∧ Kt non m
abbrev R_mover (C : Addr) : List AV → KF → Prop := fun As Kf => ∃ (D1 H1 D2 H2 : AV) (m1 m2 : List Q2) (x y : Q2), As = [ins C [("degree", D1), ("marks", tup (m1.map qv)), ("handles", H1)], ins C [("degree", D2), ("marks", tup (m2.map qv)), ("handles", H2)]] ∧ L2.atI m1 0 = some x ∧ L2.atI m2 0 = some x ∧ L2.atI m1 (-1) = some y ∧ L2.atI m2 (-1) = some y ∧
  Kf [("x", ins C [("degree", D1), ("marks", tup (m1.map qv)), ("handles", H1)]), ("y", ins C [("degree", D2), ("marks", tup (m2.map qv)), ("handles", H2)])]
structure MoverF (K : PySem.W.Frag) (C : Addr) : Prop where
  cls : L2.Cls K C
  x : NoAttr K C "x"
  y : NoAttr K C "y"
theorem atI_map {α β : Type} (f : α → β) {l : List α} {i : Int} {x : α} (h : L2.atI l i = some x) : L2.atI (l.map f) i = some (f x) := by
  unfold L2.atI at h ⊢
  rw [List.length_map]
  cases e : ixN l.length i with
  | none => rw [e] at h; cases h
  | some j => rw [e] at h; simp only [List.getElem?_map]; simpa using congrArg (Option.map f) h
theorem dat_qv (m : Mem) (q : Q2) : IsDat m (qv q) (.tuple [.int q.1, .int q.2]) := isDat_tup (.cons isDat_int (.cons isDat_int .nil))
theorem sh_qv (q : Q2) : SeqAt.shaped (.tuple [.int q.1, .int q.2]) = true := by simp [SeqAt.shaped, PyData.canLay0, PyData.canLayAll0, PyData.depth, PyData.depthAll]
theorem eq_qv (q : Q2) : PyData.eqv (.tuple [.int q.1, .int q.2]) (.tuple [.int q.1, .int q.2]) = true := by simp [PyData.eqv, PyData.eqvAll]
section
variable {P : Program} {w : World} {K : PySem.W.Frag} {mg : Str → Option Value} {base : Heap} {C : Addr}
end
end HB
namespace AL
open PySem PySem.Spec L2
open PyProof.Rows hiding St
section
variable {K : PySem.W.Frag}
/-! ### lists: together, again and again, a part, a copy, how many -/
theorem abs_lcat : AbsOp K rCat fun A B m Kt => ∃ As Bs, IsLs m A As ∧ IsLs m B Bs ∧ As.length + Bs.length ≤ 1000 ∧ Kt (lst (As ++ Bs)) m := by
  rintro A B m Kt fr ρ σ H x y Q ⟨As, Bs, hA, hB, hl, q⟩ o r1 r2 g
  obtain ⟨p1, xs, rfl, t1, r1⟩ := hA _ _ _ _ o.mem r1
  obtain ⟨p2, ys, rfl, t2, r2⟩ := hB _ _ _ _ o.mem r2
  have l1 := r1.length
  have l2 := r2.length
  refine ⟨p1, p2, xs, ys, rfl, rfl, t1, t2, Nat.le_of_lt (small1000 (by omega)), fun s hs => ?_⟩
  exact g _ m _ _ q (.alloc hs) (o.alloc hs) ⟨s, _, rfl, at_newL o.mem hs, (r1.append r2).st (.alloc hs)⟩
theorem abs_lrep : AbsOp K rRep fun A B m Kt => ∃ As k, IsLs m A As ∧ B = int k ∧ 0 ≤ k ∧ k ≤ 1000 ∧ As.length * k.toNat ≤ 1000 ∧ Kt (lst (List.replicate k.toNat As).flatten) m := by
  rintro A B m Kt fr ρ σ H x y Q ⟨As, k, hA, rfl, h0, h1, hl, q⟩ o r1 r2 g
  obtain ⟨p1, xs, rfl, t1, r1⟩ := hA _ _ _ _ o.mem r1
  have l1 := r1.length
  refine ⟨p1, k, xs, rfl, r2, t1, by omega, by omega, Nat.le_of_lt (small1000 (by rw [← l1]; exact hl)), fun s hs => ?_⟩
  exact g _ m _ _ q (.alloc hs) (o.alloc hs) ⟨s, _, rfl, at_newL o.mem hs, (r1.rep _).st (.alloc hs)⟩
theorem abs_listOf : AbsCall K (fun xs H Q => ∃ p ys, xs = [V.ref p] ∧ (SqL K H p ys ∨ SqT K H p ys) ∧ ∀ l, H l = none → Q (.ref l) (upd H l (.lst ys))) fun As m Kt => ∃ A Bs, As = [A] ∧ IsSq m A Bs ∧ Kt (lst Bs) m := by
  rintro As m Kt fr ρ σ H vs Q ⟨A, Bs, rfl, hs, q⟩ o r g
  cases r with
  | cons r t =>
    cases t
    obtain ⟨p, ys, rfl, h, rr⟩ := hs _ _ _ _ o.mem r
    exact ⟨p, ys, rfl, h, fun l hl => g _ m _ _ q (.alloc hl) (o.alloc hl) ⟨l, _, rfl, at_newL o.mem hl, rr.st (.alloc hl)⟩⟩
/-- xs.count(d), over data -/
def rCntD (K : PySem.W.Frag) : V → List V → Hp → VK → Prop := fun x xs H Q => ∃ (p : Addr) (ys : List V) (y : V) (ds : List PyData) (d : PyData), x = .ref p ∧ xs = [y] ∧ SqL K H p ys ∧ DpAll K H ys ds ∧ Dp K H y d ∧ PyData.plainAll ds = true ∧ d.plain = true ∧ d.depth < 32 ∧ Q (.int ((ds.countP fun z => PyData.eqv z d : Nat) : Int)) H
theorem mt_countD {X : Cx} (hu : X.A.units + 64 < cLine) : MtR X "list.count" (rCntD X.K) := by
  intro pins s σ H x xs v us Q I rx rxs h
  obtain ⟨p, ys, y, ds, d, rfl, rfl, hs, hds, hd, p1, p2, p3, q⟩ := h
  cases rx
  obtain ⟨u, rfl, ru⟩ := rxs.one
  obtain ⟨its, rv, pl, hlen⟩ := I.list hs
  obtain ⟨as, ra⟩ := Dp.readsAll I ds _ _ hds rv
  obtain ⟨bs, rb⟩ := Dp.reads I d _ _ hd ru
  have e : s.heap.IsList p its.toArray := pl.isList
  refine SeqAt.count_list_data (vs := its.toArray) e (by simpa using ra) rb p1 p2 (by omega) ?_
  exact ⟨.int ((ds.countP fun z => PyData.eqv z d : Nat) : Int), H, I.tok _, ⟨s.toks, rfl⟩, q⟩
end
/-- a new list that is to be changed, as a value -/
theorem WN.new {X : Cx} {ρ : Rho} {m : Mem} {Kt : KA} {e : Expr} (h : WN X e ρ m fun As m1 => ∀ q, Kt (val (.ref q)) (m1 ++ [(q, .l As)])) : WE X e ρ m Kt := fun fr σ H o Q g => h fr σ H o Q fun As m' q vs H' k x1 o' r => by
  have hms : ∀ z, z ∈ Ms fr (m' ++ [(q, .l As)]) ↔ z ∈ Ms ((q, .lst vs) :: fr) m' := fun z => by
    unfold Ms
    simp only [List.map_append, List.map_cons, List.map_nil, List.mem_append, List.mem_cons, List.not_mem_nil, or_false]
    constructor
    · rintro (h | h | h)
      · exact .inl (.inr h)
      · exact .inr h
      · exact .inl (.inl h)
    · rintro ((h | h) | h)
      · exact .inr (.inr h)
      · exact .inl h
      · exact .inr (.inl h)
  have xs : Ext (Ms ((q, .lst vs) :: fr) m') H' (Ms fr (m' ++ [(q, .l As)])) H' := .same fun z hz => (hms z).mp hz
  have nq := (List.nodup_cons.mp o'.mem.nd).1
  refine g _ _ _ H' (k q) (x1.trans xs) ⟨o'.env.st xs, ⟨fun b v z => o'.mem.frm b v (List.mem_cons_of_mem _ z), fun b c z => ?_, nd_snoc (List.nodup_cons.mp o'.mem.nd).2 nq⟩⟩ rfl
  rcases List.mem_append.mp z with z | z
  · obtain ⟨v, e, r'⟩ := o'.mem.at_ b c z
    exact ⟨v, e, r'.st xs⟩
  · rw [List.mem_singleton] at z
    cases z
    exact ⟨_, o'.mem.frm _ _ List.mem_cons_self, AllV.st r xs⟩
section
variable {P : Program} {w : World} {K : PySem.W.Frag} {mg : Str → Option Value} {base : Heap}
variable {N : List Str} {sc : Scope} {df : Bool} {k : Nat} {X : Cx} {ρ : Rho} {m : Mem} {Kt : KA} {pos : Pos} {e f : Expr} {es : List Expr}
theorem we_lcat (h : WE X e ρ m fun A m1 => WE X f ρ m1 fun B m2 => ∃ As Bs, IsLs m2 A As ∧ IsLs m2 B Bs ∧ As.length + Bs.length ≤ 1000 ∧ Kt (lst (As ++ Bs)) m2) : WE X (.BinOp e .Add f pos) ρ m Kt :=
  we_bin op_cat abs_lcat h
theorem we_lrep (h : WE X e ρ m fun A m1 => WE X f ρ m1 fun B m2 => ∃ As k, IsLs m2 A As ∧ B = int k ∧ 0 ≤ k ∧ k ≤ 1000 ∧ As.length * k.toNat ≤ 1000 ∧ Kt (lst (List.replicate k.toNat As).flatten) m2) : WE X (.BinOp e .Mult f pos) ρ m Kt :=
  we_bin op_rep abs_lrep h
theorem we_lsl {lo hi : Option Expr} {p2 : Pos} (h : WE X e ρ m fun A m1 => WO X lo ρ m1 fun l m2 => WO X hi ρ m2 fun u m3 => ∃ As, A = lst As ∧ Kt (lst (cutA As l u)) m3) : WE X (.Subscript e (.Slice lo hi none p2) pos) ρ m Kt := by
  intro fr σ H o Q g
  refine le_E (pe_slice sl_list wpE_pe (tO_po lo) (tO_po hi)) ?_
  refine h.to o fun A m1 v H1 h1 x1 o1 r1 => WO.to h1 o1 fun l m2 H2 h2 x2 o2 => WO.to h2 o2 fun u m3 H3 ⟨As, ea, q⟩ x3 o3 => ?_
  subst ea
  obtain ⟨p, xs, rfl, t, rr⟩ := (lst As).st r1 (x2.trans x3)
  exact ⟨p, xs, rfl, .inl (.inl t.1), fun s hs => g _ m3 _ _ q (((x1.trans x2).trans x3).trans (.alloc hs)) (o3.alloc hs) ⟨s, _, rfl, at_newL o3.mem hs, (rr.cut l u).st (.alloc hs)⟩⟩
variable (a : At P w K mg base N sc df k X) (Z : Blt mg)
include a Z in
theorem b_listOf {p : Pos} (hg : sc.names.lookup ("list" : Str) = some .globalImplicit) (h : WA X [e] ρ m fun As m1 => ∃ A Bs, As = [A] ∧ IsSq m1 A Bs ∧ Kt (lst Bs) m1) (he : starEach (e :: []) X.env = (false, eval e X.env) :: starEach [] X.env := by rfl) (hpl : (backTo pos (starEach [] X.env)).any (·.1) = false := by rfl) : WE X (.Call (.Name "list" p) [e] [] pos) ρ m Kt :=
  we_callTy a call_list_of abs_listOf hg Z.list (by decide +kernel) h (by decide) (by decide) he hpl
include a in
/-- o.count(e) -/
theorem we_count {o : Expr} {apos : Pos} (h : WE X o ρ m fun A m1 => (∃ q Cs m6 m7, A = val (.ref q) ∧ m1 = m6 ++ (q, .l Cs) :: m7) ∧ WE X e ρ m1 fun B m2 => ∃ As ds d, IsLs m2 A As ∧ AllDat m2 As ds ∧ IsDat m2 B d ∧ PyData.plainAll ds = true ∧ d.plain = true ∧ d.depth < 32 ∧ Kt (int ((ds.countP fun z => PyData.eqv z d : Nat) : Int)) m2)
    (hbase : attributeBase o "count" X.env (eval o X.env) = eval o X.env := by rfl)
    (hfew : ((backTo pos (starEach (e :: []) X.env)).all (fun x => !x.1) && (backToKw pos (keywordEach [] X.env)).all (fun x => x.1.isSome)
      && decide ((e :: ([] : List Expr)).length + ([] : List Keyword).length + (if ([] : List Keyword).isEmpty then 0 else 1) < 30)) = true := by rfl)
    (hline : (apos.endLine == pos.line) = true := by rfl) (hs : starEach (e :: []) X.env = (false, eval e X.env) :: starEach [] X.env := by rfl) (hplain : (backTo pos (starEach [] X.env)).any (·.1) = false := by rfl) :
    WE X (.Call (.Attribute o "count" apos) [e] [] pos) ρ m Kt := by
  intro fr σ H hh Q g
  have hu : X.A.units + 64 < cLine := hu_at a
  refine le_E (pe_bm PySem.F.plainAttrs_list PySem.F.slot_list_count PySem.F.type_list_count (mt_countD hu) wpE_pe (pa_cons wpE_pe pa_nil hs) hbase hfew hline hs hplain) ?_
  refine h.to hh fun A m1 v H1 ⟨⟨q, Cs, m6, m7, ea, em⟩, h1⟩ x1 o1 r1 => ?_
  subst ea em
  obtain ⟨u0, e0, rr0⟩ := o1.mem.at_ q (.l Cs) (by simp)
  obtain ⟨vs0, rfl, rr0⟩ := rr0.lst
  have r1' : v = V.ref q := r1
  subst r1'
  refine ⟨.inl ⟨rfl, _, .inl (.inl e0)⟩, ?_⟩
  refine h1.to o1 fun B m2 b H2 ⟨As, ds, d, hA, hds, hd, p1, p2, p3, k⟩ x2 o2 r2 => ?_
  obtain ⟨p, ys, ep, t, rr⟩ := hA _ _ _ _ o2.mem (show (val (V.ref q)).p _ _ _ (V.ref q) from rfl)
  exact ⟨p, ys, b, ds, d, ep, rfl, .inl (.inl t), hds.dp o2.mem rr, hd _ _ _ _ o2.mem r2, p1, p2, p3, g _ _ _ _ k (x1.trans x2) o2 rfl⟩
end
end AL
namespace AL
open PySem PySem.Spec L2
open PyProof.Rows hiding St
section
variable {P : Program} {w : World} {K : PySem.W.Frag} {mg : Str → Option Value} {base : Heap} {N : List Str} {sc : Scope} {df : Bool} {k : Nat} {X : Cx}
variable {ρ : Rho} {m : Mem} {Kt : KA} {pos : Pos} {E : EndsA}
/-- three captured names: no swap -/
theorem swap_no3 (a : At P w K mg base N sc df k X) {x y z : Str} {e f g : Expr} {px py pz pt : Pos} {kt k2 pt2} (hk : sc.kind = .function) (hx : sc.names.lookup x = some .cell) (hy : sc.names.lookup y = some .cell) (hz : sc.names.lookup z = some .cell) :
    swappedStores [.Tuple [.Name x px, .Name y py, .Name z pz] kt pt] (.Tuple [e, f, g] k2 pt2) X.env = pure none := by
  have kx : X.env.kindOf x = some .cell := by show X.env.scope.names.lookup x = _; rw [a.sce]; exact hx
  have ky : X.env.kindOf y = some .cell := by show X.env.scope.names.lookup y = _; rw [a.sce]; exact hy
  have kz : X.env.kindOf z = some .cell := by show X.env.scope.names.lookup z = _; rw [a.sce]; exact hz
  have kf : X.env.blockKind = .function := by unfold Env.blockKind; rw [a.sce, hk]; rfl
  have e2 : ((some NameKind.cell : Option NameKind) == some NameKind.local) = false := by decide
  have e3 : (Expr.Name x px).pos = px := rfl
  have e4 : (px.line == px.line) = true := by simp
  unfold swappedStores
  simp only [kf, kx, ky, kz, e2, e3, e4, List.head?_cons, Option.map_some, Option.getD_some, List.filterMap_cons, List.filterMap_nil, Bool.false_and, Bool.true_and, Bool.false_eq_true, if_false, if_true]
  simp
def tBack (K : PySem.W.Frag) (te : TE) : TE := fun σ H Q =>
  te σ H fun x J => ∃ a ys, x = .ref a ∧ SqL K J a ys ∧ ∀ q, J q = none → Q (.ref q) (upd J q (.lst ys.reverse))
/-- e[::0 - 1] -/
theorem pe_back {e : Expr} {te : TE} {i j : Nat} {p1 p2 p3 p4 pos : Pos} (he : PE X e te) :
    PE X (.Subscript e (.Slice none none (some (.BinOp (.Constant (.int 0) i p1) .Sub (.Constant (.int 1) j p2) p3)) p4) pos) (tBack X.K te) := by
  refine ⟨fun pins s σ H Q I hh => ?_⟩
  refine Subscript_ (thn (he.run pins s σ H _ I hh) fun v t1 ⟨x, J1, I1, r1, q1⟩ => ?_)
  obtain ⟨a, ys, rfl, hy, q⟩ := q1
  cases r1
  have hp : PO X (some (.BinOp (.Constant (.int 0) i p1) .Sub (.Constant (.int 1) j p2) p3)) (tPart (tOp (rI0 fun i j => .int (i - j)) (tC (.int 0)) (tC (.int 1)))) := po_some (pe_op op_sub pe_int pe_int)
  refine wpAny_Slice (thn (po_none.run pins t1 σ J1 (fun o J2 => o = none ∧ J2 = J1) I1 ⟨rfl, rfl⟩) fun vl t2 ⟨l, J2, I2, pl, el, e2⟩ => ?_)
  obtain rfl := e2
  obtain rfl := el
  refine thn (po_none.run pins t2 σ J2 (fun o J3 => o = none ∧ J3 = J2) I2 ⟨rfl, rfl⟩) fun vu t3 ⟨u, J3, I3, pu, eu, e3⟩ => ?_
  obtain rfl := e3
  obtain rfl := eu
  refine thn (hp.run pins t3 σ J3 (fun o J4 => o = some (-1) ∧ J4 = J3) I3 ⟨0, 1, rfl, rfl, -1, rfl, rfl, rfl⟩) fun vs t4 ⟨o, J4, I4, ps, eo, e4⟩ => ?_
  obtain rfl := e4
  obtain rfl := eo
  have I5 : Inv X pins σ J4 { t4 with heap := t4.heap.push { cls := .type "slice", data := .fields #[vl, vu, vs] } } :=
    I4.kept (t' := t4.toks) fun b ob z => Heap.get?_push_of_some _ z
  obtain ⟨its, r, ht, hz⟩ := I5.list hy
  have hlen := r.length
  show wpAny (model X.prog X.w) X.A (subscriptTail e (.Slice none none (some (.BinOp (.Constant (.int 0) i p1) .Sub (.Constant (.int 1) j p2) p3)) p4) (.ref a) (.ref t4.heap.objs.size)) (EP X pins σ Q) X.xe
    { t4 with heap := t4.heap.push { cls := .type "slice", data := .fields #[vl, vu, vs] } }
  refine tail_any (ops := [.ref a, .ref t4.heap.objs.size]) ht.isList.typeIs
    (PySem.slot_list_getitem.lookup) ?_ (by with_unfolding_all rfl)
  refine wpAny_getItem_list_slice ht.isList (Heap.IsSliceOf.new _ vl vu vs) pl pu ps (by decide) ?_
    (by rw [List.size_toArray]; omega)
  rw [PySem.W.krv_pick]
  refine ⟨.ref _, _, I5.laid (t' := t4.toks) (o := .lst ys.reverse) (fun b ob z => Heap.get?_push_of_some _ z)
    (Nat.le_refl _) ?_, rfl, q _ (I5.hok.fresh (Nat.le_refl _))⟩
  refine ⟨?_, _, 0, r.reverse, Heap.get?_push_size _ rfl⟩
  rw [List.length_reverse]
  exact hz
theorem we_back {e : Expr} {i j : Nat} {p1 p2 p3 p4 pos : Pos} (h : WE X e ρ m fun A m1 => ∃ As, A = lst As ∧ Kt (lst As.reverse) m1) :
    WE X (.Subscript e (.Slice none none (some (.BinOp (.Constant (.int 0) i p1) .Sub (.Constant (.int 1) j p2) p3)) p4) pos) ρ m Kt := by
  intro fr σ H o Q g
  refine le_E (pe_back wpE_pe) ?_
  refine h.to o fun A m1 v H1 ⟨As, ea, q⟩ x1 o1 r1 => ?_
  subst ea
  obtain ⟨p, xs, rfl, t, rr⟩ := r1
  exact ⟨p, xs, rfl, .inl (.inl t.1), fun s hs => g _ m1 _ _ q (x1.trans (.alloc hs)) (o1.alloc hs) ⟨s, _, rfl, at_newL o1.mem hs, rr.reverse.st (.alloc hs)⟩⟩
end
end AL
namespace AL
open PySem PySem.Spec L2
open PyProof.Rows hiding St
section
variable {P : Program} {w : World} {K : PySem.W.Frag} {mg : Str → Option Value} {base : Heap} {N : List Str} {sc : Scope} {df : Bool} {k : Nat} {X : Cx}
variable {ρ : Rho} {m : Mem} {Kt : KA} {Kl : KL} {pos : Pos} {E : EndsA} (a0 : At P w K mg base N sc df k X)
/-- a comprehension with one test -/
def LcF (X : Cx) (scope : Scope) (c elt : Expr) (tgt : Nat → AV → Rho → Rho) (ρ0 : Rho) (Is : List AV) (m1 : Mem) (Kl : KL) : Prop :=
  Is.length ≤ 1000 ∧ ∃ W : Nat → List AV → Mem → Prop, W 0 [] m1 ∧ (∀ i acc m' A, Is[i]? = some A → W i acc m' → ∀ X', BlkOf X scope X' →
    WT X' c (tgt i A ρ0) m' fun b m3 => Br b (∀ X2, BlkOf X scope X2 → WE X2 elt (tgt i A ρ0) m3 fun B m4 => W (i + 1) (acc ++ [B]) m4) (W (i + 1) acc m3)) ∧ ∀ acc m', W Is.length acc m' → Kl acc m'
def ttBlk (X : Cx) (scope : Scope) (c : Expr) : TT := fun σ H Q => ∀ X', BlkOf X scope X' → wpT X' c σ H Q
theorem ttBlk_pt {scope : Scope} {c : Expr} (s : Shared) (H : Hp) (C : Addr) (cl : List (Str × Addr)) (fp : List Addr) : PTs (X.blk s H scope (compEnvC scope cl C X.env) fp) [c] (ttBlk X scope c) :=
  pts_one ⟨fun pins s' σ H' Q I h => h _ ⟨s, H, cl, C, fp, rfl⟩ pins s' I⟩
theorem lc_readF {scope : Scope} {c elt : Expr} {tgt : Nat → AV → Rho → Rho} {g : TG} {vs : List Nat} {fr : Frm} {σ : St} {J : It} {m1 : Mem} {H1 : Hp} {Is : List AV} {Q : VK} {D : Addr}
    (hg : ∀ (i : Nat) (A : AV) (x : V) (M : Mem) (frx : Frm) (H2 : Hp) (R : St → Hp → Prop), Is[i]? = some A → A.p X.K (Ms frx M) H2 x → EnvV X.K (Ms frx M) H2 (wipeR ρ vs) (wipe σ vs) → (∀ σ2, wipe σ2 vs = wipe σ vs → EnvV X.K (Ms frx M) H2 (tgt i A (wipeR ρ vs)) σ2 → R σ2 H2) → g x (wipe σ vs) H2 R)
    (o1 : Holds X.K fr ρ m1 σ H1) (it : IterOk X.K J (Ms fr m1) H1 Is) (hD : H1 D = none) (h : LcF X scope c elt tgt (wipeR ρ vs) Is m1 Kl)
    (fin : ∀ As m' xs H', Kl As m' → Ext (Ms fr m1) H1 (Ms ((D, .lst xs) :: fr) m') H' → Holds X.K ((D, .lst xs) :: fr) ρ m' σ H' → AllV X.K (Ms ((D, .lst xs) :: fr) m') H' As xs → Q (.ref D) H') :
    ∃ W : Nat → Nat → Hp → Prop, (∃ n, W 0 n (upd H1 D (.lst []))) ∧ ∀ i n H, W i n H →
      (J.stop i H ∧ Q (.ref D) H) ∨ (J.go i H ∧ ∃ Nx : Hp → Prop, (∀ H', Nx H' → ∃ n', n' < n ∧ W (i + 1) n' H') ∧ ∀ x H', J.yld i H x H' → g x (wipe σ vs) H' fun σ2 H2 => wipe σ2 vs = wipe σ vs ∧ ttBlk X scope c σ2 H2 fun b H3 =>
        if b = true then teBlk X scope elt σ2 H3 fun y H4 => ∃ acc, H4 D = some (.lst acc) ∧ acc.length < sizeLine ∧ Nx (upd H4 D (.lst (acc ++ [y]))) else Nx H3) := by
  obtain ⟨hlen, W, w0, step, last⟩ := h
  let S : Nat → Hp → Prop := fun i H => i ≤ Is.length ∧ ∃ acc m' xs, W i acc m' ∧ Ext (Ms fr m1) H1 (Ms ((D, .lst xs) :: fr) m') H ∧ MemV X.K ((D, .lst xs) :: fr) m' H ∧ EnvV X.K (Ms ((D, .lst xs) :: fr) m') H ρ σ ∧ AllV X.K (Ms ((D, .lst xs) :: fr) m') H acc xs ∧ xs.length ≤ i
  refine ⟨fun i n H => n = Is.length - i ∧ S i H, ⟨_, rfl, Nat.zero_le _, [], m1, [], w0, .push hD, o1.mem.push hD, o1.env.st (.push hD), .nil, Nat.le_refl _⟩, ?_⟩
  rintro i n H ⟨rfl, hi, acc, m', xs, hw, x, mv, ev, rv, hxl⟩
  by_cases hlt : i < Is.length
  · refine .inr ⟨it.go i _ _ hlt x, S (i + 1), fun H' hN => ⟨Is.length - (i + 1), by omega, rfl, hN⟩, fun y H2 hy => ?_⟩
    have hA : Is[i]? = some Is[i] := by simp [hlt]
    obtain ⟨hh, hv⟩ := it.yld i _ _ y H2 hlt x (fun b hb => mv.has hb) hy
    obtain ⟨mv2, x2⟩ := mv.ofYld hh
    refine hg i Is[i] y m' _ H2 _ hA (hv _ hA) ((ev.st x2).wipe vs) fun σ2 hs e2 => ⟨hs, ?_⟩
    intro X' hX'
    have hs' := step i acc m' Is[i] hA hw X' hX'
    refine hs' _ σ2 H2 ⟨by rw [hX'.kt]; exact e2, by rw [hX'.kt]; exact mv2⟩ _ fun b m3 H3 hB x3 o3 => ?_
    rw [hX'.kt] at o3
    cases b with
    | false =>
      rw [if_neg (by decide)]
      have hW : W (i + 1) acc m3 := hB.ite
      have x5 := x2.trans x3
      exact ⟨hlt, acc, m3, xs, hW, x.trans x5, o3.mem, ev.st x5, rv.st x5, by omega⟩
    | true =>
      rw [if_pos rfl]
      intro X2 hX2
      have hW0 := hB.ite
      rw [if_pos rfl] at hW0
      have o3' : Holds X2.K ((D, .lst xs) :: fr) (tgt i Is[i] (wipeR ρ vs)) m3 σ2 H3 := ⟨by rw [hX2.kt]; exact o3.env, by rw [hX2.kt]; exact o3.mem⟩
      refine hW0 X2 hX2 _ σ2 H3 o3' _ fun B m4 yv H4 hW x4 o4 r4 => ?_
      rw [hX2.kt] at o4 r4
      have hD4 : H4 D = some (.lst xs) := o4.mem.frm _ _ List.mem_cons_self
      refine ⟨xs, hD4, Nat.le_of_lt_succ (Nat.lt_succ_of_lt (small1000 (by omega))), ?_⟩
      have x5 : Ext (Ms ((D, .lst xs) :: fr) m') H (Ms ((D, .lst (xs ++ [yv])) :: fr) m4) (upd H4 D (.lst (xs ++ [yv]))) := ((x2.trans x3).trans x4).trans .re
      exact ⟨hlt, acc ++ [B], m4, xs ++ [yv], hW, x.trans x5, o4.mem.re, ev.st x5, (rv.st x5).append (.cons (B.st r4 .re) .nil), by rw [List.length_append]; show xs.length + 1 ≤ _; omega⟩
  · have ei : i = Is.length := by omega
    subst ei
    refine .inl ⟨it.stop _ _ x, ?_⟩
    exact fin acc m' xs H (last acc m' hw) x ⟨ev, mv⟩ rv
include a0 in
theorem wn_lcf (j : Nat) {nm : Str} {tpos : Pos} {c elt iter : Expr} {scope : Scope} (hok : blkC N sc scope [(nm, j)] = true) (hj : N[j]? = some nm) (hl : (relS scope sc).names.lookup nm = some .local)
    (h : WI X (.Name nm tpos) iter ρ m fun Is m1 => LcF X scope c elt (fun _ A r => r.set j (some A)) (wipeR ρ [j]) Is m1 Kl) (hs : ∀ x, foldedSetIterable iter X.env x = pure x := by intro _; rfl) : WN X (.ListComp elt [⟨.Name nm tpos, iter, [c], 0⟩] scope pos) ρ m Kl := by
  intro fr σ H o Q g
  refine le_E (pe_lc (own := [(nm, j)]) (g := gName j) (tt := ttBlk X scope c) a0.calm (by rw [a0.nm]; exact a0.nd) wpI_pi (blkOk_by (by rw [a0.nm, a0.sce]; exact hok)) (fun s H C cl fp => pgn (blk_at a0) j hj (.inl hl)) (fun s H C cl fp => ttBlk_pt s H C cl fp) teBlk_pe hs) ?_
  refine h fr σ H o _ fun Is m1 J H1 hW x1 o1 it D hD => ?_
  refine lc_readF (fun i A y M frx H2 R _ hv ev k => k _ wipe1 (ev.set hv j)) o1 it hD hW fun As m' xs H' q x2 o2 rv => ?_
  exact g As m' D xs H' q (x1.trans x2) o2 rv
include a0 in
/-- name = [.. for .. if ..] on one line -/
theorem ws_lcf (i j : Nat) {x nm : Str} {tpos py spos : Pos} {c elt iter : Expr} {scope : Scope} (hk : sc.kind = .function) (hx : N[i]? = some x) (hxl : sc.names.lookup x = some .local) (hln : (py.line == pos.line) = true) (hany : (scope.names.any fun (n, k) => n == x && (k == .local || k == .cell)) = false)
    (hok : blkC N sc scope [(nm, j)] = true) (hj : N[j]? = some nm) (hl : (relS scope sc).names.lookup nm = some .local)
    (h : WI X (.Name nm tpos) iter ρ m fun Is m1 => LcF X scope c elt (fun _ A r => r.set j (some A)) (wipeR ρ [j]) Is m1 fun As m2 => E.nx (ρ.set i (some (lst As))) m2) (hs : ∀ x, foldedSetIterable iter X.env x = pure x := by intro _; rfl) :
    WS X (.Assign [.Name x py] (.ListComp elt [⟨.Name nm tpos, iter, [c], 0⟩] scope pos) spos) ρ m E := by
  intro fr σ H o D0 g
  refine le_S (ps_setLc (own := [(nm, j)]) (g := gName j) (tt := ttBlk X scope c) a0.calm (by rw [a0.nm]; exact a0.nd) (by rw [a0.nm]; exact hx) (by rw [a0.sce]; exact hxl) (sw_true ?_ (by rw [a0.sce]; exact hxl) hln hany) wpI_pi (blkOk_by (by rw [a0.nm, a0.sce]; exact hok)) (fun s H C cl fp => pgn (blk_at a0) j hj (.inl hl)) (fun s H C cl fp => ttBlk_pt s H C cl fp) teBlk_pe hs) ?_
  · rw [a0.sce]; exact hk
  refine h fr σ H o _ fun Is m1 J H1 hW x1 o1 it D hD => ?_
  refine lc_readF (Q := fun x H1 => D0.nx (σ.set i (some x)) H1) (g := gName j) (vs := [j]) (fun i A y M frx H2 R _ hv ev k => k _ wipe1 (ev.set hv j)) o1 it hD hW fun As m' xs H' q x2 o2 rv => ?_
  obtain ⟨o3, r3⟩ := new_lst o2 rv
  exact g.nx _ m' _ H' q (x1.trans (x2.trans .pop)) ⟨o3.env.set r3 i, o3.mem⟩
omit a0 in
theorem ws_cont (h : E.ct ρ m) : WS X (.Continue pos) ρ m E := fun fr σ H o D g => le_S ps_continue (g.ct ρ m σ H h (.refl _ _) o)
end
end AL
namespace AL
open PySem PySem.Spec L2
open PyProof.Rows hiding St
/-- what a def promises to a caller with no guard under way -/
def FnG (P : Program) (w : World) (K : PySem.W.Frag) (mg : Str → Option Value) (base : Heap) (k : Nat) (f : Addr) (fd : FuncData) (ps : List Str) (sp : Sp) : Prop :=
  ∀ (A : Around), A.guards = some [] → Room k A → ∀ outer s H (args : Args) us vs Q, Env0 P w K mg base A outer s H → BindsTo s fd args (ps.zip us) →
    Vals vs us → sp vs H Q E0 → codeAny (model P w) A (.call (.ref f) args) (CR CX0 outer P w H s Q E0) s
section
variable {P : Program} {w : World} {K : PySem.W.Frag} {mg : Str → Option Value} {base : Heap} {N : List Str} {sc : Scope} {df : Bool} {k : Nat} {X : Cx}
variable {ρ : Rho} {m : Mem} {Kt : KA} {pos : Pos} {e f : Expr} {E : EndsA} {Kl : KL} {es : List Expr} {Kb : KT}
theorem FnG.of {x qual : Str} {st : Stmt} {f : Addr} {fd : FuncData} {ps : List Str} {k : Nat} {sp : Sp} (F : Fun K x qual st f fd) (S : FnScope N ps (defScope st))
    (len : ∀ vs H Q E, sp vs H Q E → vs.length = ps.length)
    (hbody : ∀ (cdv : Value) (A : Around) (outer : List Env) (s : Shared) (H : Hp) (vs : List V) (Q : VK), A.guards = some [] → Room k (A.deeper (envOfC qual (defScope st) s.heap.objs.size f cdv)) → sp vs H Q E0 →
      wpSs (cxOf CX0 P w K mg base N qual (defScope st) f cdv A outer s H E0).nox (defBody st) { nx := fun _ H' => Q .non H', rt := Q } (start N vs) H) : FnG P w K mg base (k + 1) f fd ps sp := by
  obtain ⟨oc, od, kV, doc, pm, an, cdv, ct, osl, efd, lk, hcd⟩ := F.ex
  subst efd
  intro A hg room outer s H args us vs Q env bnd vals wish
  have size := len _ _ _ _ wish
  have KX : K.In s.heap := (env.mod).kin.keeps fun b o z => (env.bs b o z).1
  have lim : s.heap.NoLimit := (env.mod).nolimit.keeps fun b o z => (env.bs b o z).1
  have kinds : ∀ y ∈ ps.zip us, (defScope st).names.lookup y.1 = some .local ∨ ((defScope st).names.lookup y.1 = some .cell ∧ ((cellsFrom (s.heap.objs.size + 1) (defScope st).names []).lookup y.1).isSome = true) := by
    rintro ⟨n, v⟩ hy
    exact (S.par n (List.of_mem_zip hy).1).elim .inl fun z => .inr ⟨z, PySem.W.cellsFrom_some _ _ _ (.inl z)⟩
  refine codeAny_call_function room.depth (KX _ _ lk) rfl S.co S.gen rfl
    (PySem.W.codeRec_of KX hcd) (bnd _ _ _ _ ?_)
  refine wpAny_newFunctionEnv_cells S.kind kinds fun env2 he s1 x => ?_
  subst env2
  refine ⟨lim.keeps x.toInCall.keep, codeAny_func ?_⟩
  have I := inv_start (CX := CX0) (mg := mg) (E := E0) S room.hd env size vals x
  have body := hbody cdv A outer s H vs Q hg (room.deeper _) wish
  have pp : PSs (cxOf CX0 P w K mg base N qual (defScope st) f cdv A outer s H E0).nox (defBody st) (wpSs (cxOf CX0 P w K mg base N qual (defScope st) f cdv A outer s H E0).nox (defBody st)) := wpSs_pss
  refine wpAny_mono (pp.nox.run [] s1 (start N vs) H _ I body) (fun fl s2 hs => ?_) fun e s2 hs => hs
  cases fl with
  | brk => exact let ⟨_, _, _, z⟩ := hs; z.elim
  | cont => exact let ⟨_, _, _, z⟩ := hs; z.elim
  | next => exact let ⟨_, H2, J, z⟩ := hs; ⟨.non, H2, J.os, J.bare, J.base, J.hok, rfl, z⟩
  | ret u => exact let ⟨v, _, H2, J, rv, z⟩ := hs; ⟨v, H2, J.os, J.bare, J.base, J.hok, rv, z⟩
/-- THE RULE for a def that is called with no guard under way -/
theorem fnG {x qual : Str} {st : Stmt} {f : Addr} {fd : FuncData} {ps : List Str} {j : Nat} {C : CT} (F : Fun K x qual st f fd) (S : FnScope N ps (defScope st))
    (len : ∀ As m Kt, C As m Kt → As.length = ps.length)
    (body : ∀ X, At P w K mg base N (defScope st) true j X → X.A.guards = some [] → ∀ As m Kt, C As m Kt → WSs X (defBody st) (startR N As) m (bodyE Kt)) : FnG P w K mg base (j + 1) f fd ps (spOf K C) := by
  refine FnG.of F S (fun vs H Q E ⟨fr, As, m, Kt, hc, _, r, _⟩ => by rw [← r.length]; exact len As m Kt hc) (fun cdv A outer s H vs Q hg hr h => ?_)
  obtain ⟨fr, As, m, Kt, hc, mv, r, g⟩ := h
  refine body _ ⟨rfl, rfl, rfl, rfl, rfl, rfl, rfl, rfl, hr, S.nd, fun _ _ => rfl, PassesOwn.never⟩ hg As m Kt hc fr _ H ⟨startV r, mv⟩ _ ⟨fun ρ' m' σ' H' ⟨mr, loc, e, q⟩ x o => ?_, fun A m' v H' ⟨B, mr, loc, e, cv, q⟩ x o r' => ?_, fun ρ' m' σ' H' q x o => q.elim, fun ρ' m' σ' H' q x o => q.elim⟩
  · subst e
    obtain ⟨mv', x'⟩ := o.mem.drop
    exact g non mr .non H' q (x.trans x') mv' rfl
  · subst e
    obtain ⟨mv', x'⟩ := o.drop
    exact g B mr v H' q (x.trans x') mv' (cv K fr H' v o r')
end
end AL
namespace AL
open PySem PySem.Spec L2
open PyProof.Rows hiding St
theorem guards_caller : callerA.guards = some [] := rfl
/-- the law is called with no guard under way, nothing tracked but its script -/
theorem law_callG {P : Program} {w : World} {K : PySem.W.Frag} {mg mb : Str → Option Value} {k : Nat} {fa a : Addr} {fd : FuncData} {x : Str} {sp : Sp} {t : Shared} {vs : List Value} {ns : List Int}
    (KX : K.In t.heap) (hns : t.heap.Ns mainGlobals mg) (hb : t.heap.Ns builtinsNs mb) (hbb : ∀ x : Str, x ≠ "__name__" → mb x = bootBuiltins x)
    (hlim : t.heap.NoLimit) (hg : t.gens = #[]) (ha : t.heap.get? a = some { cls := .type "list", data := .seq vs.toArray })
    (hi : IntsAre vs ns) (hl : ns.length ≤ sizeLine) (hr : Room k callerA)
    (F : ∀ base : Heap, K.In base → base.Ns mainGlobals mg → FnG P w K mg base k fa fd [x] sp) (bnd : ∀ (s : Shared) (u : Value), BindsTo s fd ⟨[u], []⟩ [(x, u)])
    (hsp : ∀ H : Hp, Only H → SqL K H a (ns.map V.int) → sp [.ref a] H (fun v _ => v = .bl true) E0) :
    codeAny (model P w) callerA (.call (.ref fa) ⟨[.ref a], []⟩) (fun r s' => r = .ok (.ret (.bool true)) ∧ OldK t.heap s'.heap ∧ s'.os = t.os ∧ AllBare s'.gens) t := by
  have rv := vals_ints hi
  have lv := hi.length
  have main : ∀ H : Hp, Only H → SqL K H a (ns.map V.int) → HOk P w H t.heap → (∀ b, H b ≠ none → b = a) → (H a ≠ none → K.lookup a = none) →
      codeAny (model P w) callerA (.call (.ref fa) ⟨[.ref a], []⟩) (fun r s' => r = .ok (.ret (.bool true)) ∧ OldK t.heap s'.heap ∧ s'.os = t.os ∧ AllBare s'.gens) t := by
    intro H only sq hok own lone
    have out : ∀ {b : Addr} {o : Obj}, t.heap.get? b = some o → H b = none → (hidT t.heap H).get? b = some o := fun z n => hidT_get z n
    have noDict : ∀ {b : Addr} {o : Obj} {es : Array DictEntry} {ep : Nat}, t.heap.get? b = some o → o.data = .dict es ep → H b = none := by
      intro b o es ep z dd
      cases q : H b with
      | none => rfl
      | some u =>
        have := own b (by rw [q]; exact Option.some_ne_none u)
        subst this
        rw [ha] at z
        cases z
        have dd' : Data.seq vs.toArray _ = Data.dict es ep := dd
        cases dd'
    have nsH : ∀ {b : Addr} {m : Str → Option Value}, t.heap.Ns b m → (hidT t.heap H).Ns b m := by
      rintro b m ⟨o, es, ep, z, dd, r⟩
      exact ⟨o, es, ep, out z (noDict z dd), dd, r⟩
    have kinH : K.In (hidT t.heap H) := fun b o z => out (KX b o z) (by
      cases q : H b with
      | none => rfl
      | some u =>
        have := own b (by rw [q]; exact Option.some_ne_none u)
        subst this
        rw [lone (by rw [q]; exact Option.some_ne_none u)] at z
        cases z)
    have modH : Mod K mg (hidT t.heap H) := ⟨kinH, nsH hns, ⟨mb, nsH hb, hbb⟩, let ⟨mc, h1, h2⟩ := hlim; ⟨mc, nsH h1, h2⟩⟩
    have env : Env0 P w K mg (hidT t.heap H) callerA [] t H :=
      ⟨rfl, modH, fun b o z => of_hidT z, Nat.le_of_eq (hidT_size _ _), trivial, fun b z => absurd z List.not_mem_nil, hok, .of_eq hg⟩
    have run := F _ kinH (nsH hns) callerA guards_caller hr [] t H ⟨[.ref a], []⟩ [.ref a] [.ref a] _ env (bnd t (.ref a)) (.cons rfl .nil) (hsp H only sq)
    refine codeAny_mono run fun r s' h => ?_
    cases r with
    | error z => exact False.elim h
    | ok fl =>
      cases fl with
      | next => exact h.elim
      | brk => exact h.elim
      | cont => exact h.elim
      | ret u =>
        obtain ⟨v, H', os, bare, un, hok2, rr, q⟩ := h
        have qv : v = .bl true := q
        subst qv
        obtain rfl : u = Value.bool true := rr
        refine ⟨rfl, OldK.of_keep fun b o z => ?_, os, bare⟩
        cases qb : H b with
        | none => exact un.keep b o z qb (fun y => absurd y List.not_mem_nil) (by simp)
        | some u =>
          rcases only b with y | ⟨ob, xs, y⟩
          · rw [qb] at y
            cases y
          · obtain ⟨e1, _⟩ := hok b _ y
            obtain ⟨e2, _⟩ := hok2 b _ (un.frzs b ob _ y)
            rw [z] at e1
            cases e1
            exact e2
  by_cases hk : ∃ o, K.lookup a = some o
  · obtain ⟨o, hk⟩ := hk
    have z := KX a o hk
    rw [ha] at z
    cases z
    exact main (fun _ => none) (fun _ => .inl rfl) (.inr ⟨_, vs.toArray, _, hk, rfl, rfl, rfl, by rw [List.size_toArray, lv]; exact hl, by simpa using rv⟩)
      (fun b u (y : (none : Option HO) = some u) => nomatch y) (fun b y => (y rfl).elim) fun y => (y rfl).elim
  · have hk : K.lookup a = none := by
      cases q : K.lookup a with
      | none => rfl
      | some o => exact absurd ⟨o, q⟩ hk
    have same : ∀ {b : Addr} {u : HO}, (if b = a then some (HO.frz { cls := .type "list", data := .seq vs.toArray } (.lst (ns.map V.int))) else none) = some u → b = a ∧ u = .frz { cls := .type "list", data := .seq vs.toArray } (.lst (ns.map V.int)) := by
      intro b u y
      by_cases c : b = a
      · rw [if_pos c] at y
        exact ⟨c, (Option.some.inj y).symm⟩
      · rw [if_neg c] at y
        cases y
    refine main (fun b => if b = a then some (.frz { cls := .type "list", data := .seq vs.toArray } (.lst (ns.map V.int))) else none) (fun b => ?_)
      (.inl (.inr ⟨_, if_pos rfl⟩)) (fun b u y => ?_) (fun b y => ?_) fun _ => hk
    · by_cases c : b = a
      · exact .inr ⟨_, _, if_pos c⟩
      · exact .inl (if_neg c)
    · obtain ⟨c, eu⟩ := same y
      subst c
      subst eu
      exact ⟨ha, by rw [List.length_map]; exact hl, vs, _, rv, ha⟩
    · by_cases c : b = a
      · exact c
      · exact (y (if_neg c)).elim
/-- the goal that is left behind the head, from the law's promise to such a caller -/
theorem walk_ofG {l : PySem.W.OpenLaw} {n k : Nat} {q : Program} {loose : List Str} {XP : (Str → Option Value) → Heap → Prop} {YP : World → Heap → Prop} {d : DefRec} {K : Params → PySem.W.Frag} {sp : World → Sp} {x : Str}
    (hn : l.most = some n) (hn2 : n ≤ sizeLine) (hdf : d.params.defaults = [])
    (hr : Room k callerA) (hY : ∀ (w : World) (h : Heap), YP w h → (K w.params).In h)
    (F : ∀ (w : World) (mg : Str → Option Value) (fa : Addr) (h : Heap), (K w.params).In h → h.Ns mainGlobals mg → mg d.name = some (.ref fa) →
      ∃ fd : FuncData, (∀ (s : Shared) (u : Value), BindsTo s fd ⟨[u], []⟩ [(x, u)]) ∧ ∀ base : Heap, (K w.params).In base → base.Ns mainGlobals mg → FnG l.prog w (K w.params) mg base k fa fd [x] (sp w))
    (hsp : ∀ (w : World) (H : Hp) (a : Addr) (ns : List Int), ns.length ≤ n → Only H → SqL (K w.params) H a (ns.map V.int) → sp w [.ref a] H (fun v _ => v = .bl true) E0) :
    PySem.W.WalkO q loose XP YP l.row.toRowW d [] (fun f vs => PySem.call f vs) := by
  refine Att.attach_call hn hdf fun w s₀ t mg mb fa o pm cd doc a vs ns G Y ho hd hcd hmg hobj hints hlen hg => ?_
  obtain ⟨fd, bnd, hF⟩ := F w mg fa _ (hY w _ Y) G.T.g hmg
  exact law_callG (hY w _ Y) G.T.g G.T.b G.T.builtins G.T.nolimit hg hobj hints (Nat.le_trans hlen hn2) hr hF bnd fun H only sq => hsp w H a ns hlen only sq
end AL
namespace AL
open PySem PySem.Spec L2
open PyProof.Rows hiding St
mutual
/-- data of numbers, in lists and tuples -/
def numD : PyData → Bool
  | .none | .bool _ => true
  | .int i => decide (i.natAbs.log2 < 1920)
  | .list xs | .tuple xs => numAll xs
  | _ => false
def numAll : List PyData → Bool
  | [] => true
  | x :: xs => numD x && numAll xs
end
mutual
theorem numD_ok : ∀ d : PyData, numD d = true → d.showable = true ∧ d.hasDict = false ∧ d.leavesShort 1930 = true
  | .none, _ => ⟨rfl, rfl, rfl⟩
  | .bool _, _ => ⟨rfl, rfl, rfl⟩
  | .int i, h => by
    have h1 : i.natAbs.log2 < 1920 := of_decide_eq_true (by simpa [numD] using h)
    refine ⟨by simpa [PyData.showable] using h1, rfl, ?_⟩
    have e := int_text_length_le (k := 1920) (by decide) h1
    have e2 : (Str.ofString (toString i)).length ≤ 1930 := by
      rw [PySem.ofString_length]
      omega
    have : decide ((PyData.shown (.int i)).length ≤ 1930) = true := decide_eq_true e2
    simpa only [PyData.leavesShort] using this
  | .list xs, h => by
    have := numAll_ok xs (by simpa [numD] using h)
    simpa only [PyData.showable, PyData.hasDict, PyData.leavesShort] using this
  | .tuple xs, h => by
    have := numAll_ok xs (by simpa [numD] using h)
    simpa only [PyData.showable, PyData.hasDict, PyData.leavesShort] using this
  | .str _, h => by simp [numD] at h
  | .dict _, h => by simp [numD] at h
theorem numAll_ok : ∀ xs : List PyData, numAll xs = true → PyData.showableAll xs = true ∧ PyData.hasDictAll xs = false ∧ PyData.leavesShortAll 1930 xs = true
  | [], _ => ⟨rfl, rfl, rfl⟩
  | x :: xs, h => by
    simp only [numAll, Bool.and_eq_true] at h
    obtain ⟨a1, a2, a3⟩ := numD_ok x h.1
    obtain ⟨b1, b2, b3⟩ := numAll_ok xs h.2
    simp [PyData.showableAll, PyData.hasDictAll, PyData.leavesShortAll, a1, a2, a3, b1, b2, b3]
end
/-- a list or a tuple that can be shown -/
def ShowD (d : PyData) : Prop := (∃ ds, d = .tuple ds ∨ d = .list ds) ∧ numD d = true ∧ d.bulk ≤ 8000 ∧ d.depth ≤ 30
theorem ShowD.fits {d : PyData} (h : ShowD d) : d.shown.length ≤ sizeLine := by
  have h1 := PyData.shown_le_bulk 1930 (by decide) d (numD_ok d h.2.1).2.2
  have h2 := h.2.2.1
  have e : sizeLine = 2 ^ 24 := rfl
  have m : (1930 + 2) * d.bulk ≤ (1930 + 2) * 8000 := Nat.mul_le_mul_left _ h2
  rw [e]
  omega
def rShow (K : PySem.W.Frag) : List V → Hp → VK → Prop := fun xs H Q => ∃ v d, xs = [v] ∧ Dp K H v d ∧ ShowD d ∧ Q (.str d.shown) H
section
variable {P : Program} {w : World} {K : PySem.W.Frag} {mg : Str → Option Value} {base : Heap} {N : List Str} {sc : Scope} {df : Bool} {k : Nat} {X : Cx}
variable {ρ : Rho} {m : Mem} {Kt : KA} {pos : Pos} {e f : Expr} {E : EndsA} {Kl : KL} {es : List Expr} {Kb : KT}
theorem call_show (hg : X.A.guards = some []) (hu : X.A.units + 64 < cLine) : CallR X (.builtin "repr") (rShow X.K) := by
  intro pins s σ H xs us Q I r h
  obtain ⟨v, d, rfl, hd, sh, q⟩ := h
  obtain ⟨u, rfl, ru⟩ := r.one
  obtain ⟨as, rd⟩ := Dp.reads I d v u hd ru
  obtain ⟨a1, a2, a3⟩ := numD_ok d sh.2.1
  have dp := sh.2.2.2
  have fin : ∀ h' u tk, (∀ b o, s.heap.get? b = some o → h'.get? b = some o) → EP X pins σ Q (.str d.shown u) { s with heap := h', toks := tk } :=
    fun h' u tk hk => ⟨.str d.shown, H, I.kept (t' := tk) hk, ⟨u, rfl⟩, q⟩
  obtain ⟨⟨ds, hds⟩, _⟩ := sh
  have hur : ∃ b, u = .ref b := by
    rcases hds with rfl | rfl
    · cases hd with
      | tup _ _ => exact ⟨_, ru⟩
    · cases hd with
      | lst _ _ => exact ⟨_, ru⟩
  obtain ⟨b, rfl⟩ := hur
  exact repr_of_reads' rd a1 (PyData.noDict_hsm a2) hg (by omega) (fun _ _ z => z) fin (ShowD.fits ⟨⟨ds, hds⟩, by assumption⟩)
theorem abs_show : AbsCall K (rShow K) fun As m Kt => ∃ A d, As = [A] ∧ IsDat m A d ∧ ShowD d ∧ Kt (AL.str d.shown) m := by
  rintro As m Kt fr ρ σ H vs Q ⟨A, d, rfl, hd, sh, q⟩ o r g
  cases r with
  | cons r t =>
    cases t
    exact ⟨_, d, rfl, hd _ _ _ _ o.mem r, sh, g _ m _ H q (.refl _ _) o rfl⟩
theorem b_repr (a : At P w K mg base N sc df k X) (hgu : X.A.guards = some []) (hm : mg "repr" = none) {p : Pos} (hg : sc.names.lookup ("repr" : Str) = some .globalImplicit)
    (h : WA X [e] ρ m fun As m1 => ∃ A d, As = [A] ∧ IsDat m1 A d ∧ ShowD d ∧ Kt (AL.str d.shown) m1) (he : starEach (e :: []) X.env = (false, eval e X.env) :: starEach [] X.env := by rfl) (hpl : (backTo pos (starEach [] X.env)).any (·.1) = false := by rfl) :
    WE X (.Call (.Name "repr" p) [e] [] pos) ρ m Kt :=
  we_callB a (call_show hgu (hu_at a)) abs_show hg hm (by decide +kernel) h (by decide) (by decide) he hpl
theorem abs_neS : AbsOp K rNe fun A B m Kt => ∃ x y : Str, A = AL.str x ∧ B = AL.str y ∧ Kt (AL.bool (!decide (x = y))) m := by
  rintro A B m Kt fr ρ σ H u v Q ⟨x, y, rfl, rfl, q⟩ o rx ry g
  have eu : u = V.str x := rx
  have ev : v = V.str y := ry
  subst eu ev
  refine ⟨rfl, g _ m _ H q (.refl _ _) o ?_⟩
  show V.bl (!decide (V.str x = V.str y)) = V.bl (!decide (x = y))
  by_cases c : x = y
  · subst c
    simp
  · have c2 : V.str x ≠ V.str y := fun z => c (by cases z; rfl)
    rw [decide_eq_false c, decide_eq_false c2]
theorem abs_eqS : AbsOp K rEq fun A B m Kt => ∃ x y : Str, A = AL.str x ∧ B = AL.str y ∧ Kt (AL.bool (decide (x = y))) m := by
  rintro A B m Kt fr ρ σ H u v Q ⟨x, y, rfl, rfl, q⟩ o rx ry g
  have eu : u = V.str x := rx
  have ev : v = V.str y := ry
  subst eu ev
  refine ⟨rfl, g _ m _ H q (.refl _ _) o ?_⟩
  show V.bl (decide (V.str x = V.str y)) = V.bl (decide (x = y))
  by_cases c : x = y
  · subst c
    simp
  · have c2 : V.str x ≠ V.str y := fun z => c (by cases z; rfl)
    rw [decide_eq_false c, decide_eq_false c2]
end
end AL
namespace AL
open PySem PySem.Spec L2
open PyProof.Rows hiding St
section
variable {X : Cx} {ρ : Rho} {m : Mem} {E : EndsA}
theorem set_self {α : Type} : ∀ {l : List α} {i : Nat} {x : α}, l[i]? = some x → l.set i x = l
  | [], _, _, h => by cases h
  | y :: l, 0, x, h => by
    cases h
    rfl
  | y :: l, i + 1, x, h => by
    show y :: l.set i x = y :: l
    rw [set_self (l := l) (i := i) h]
/-- a list that is changed no more -/
theorem wss_freeze {sts : List Stmt} (j : Nat) {q : Addr} {As : List AV} {m6 m7 : Mem} (hm : m = m6 ++ (q, .l As) :: m7) (hj : ρ[j]? = some (some (val (.ref q)))) (h : WSs X sts (ρ.set j (some (lst As))) (m6 ++ m7) E) : WSs X sts ρ m E := by
  subst hm
  intro fr σ H o D g
  have sub : ∀ x, x ∈ Ms fr (m6 ++ m7) → x ∈ Ms fr (m6 ++ (q, Cell.l As) :: m7) := fun x hx => by
    unfold Ms at *
    simp only [List.map_append, List.map_cons, List.mem_append, List.mem_cons] at *
    rcases hx with hx | hx | hx
    · exact .inl hx
    · exact .inr (.inl hx)
    · exact .inr (.inr (.inr hx))
  have nd := o.mem.nd
  have xs : Ext (Ms fr (m6 ++ (q, Cell.l As) :: m7)) H (Ms fr (m6 ++ m7)) H := .same sub
  have nq : q ∉ Ms fr (m6 ++ m7) := fun hx => by
    unfold Ms at nd hx
    rw [List.map_append, List.map_cons, ← List.append_assoc] at nd
    rw [List.map_append, ← List.append_assoc] at hx
    have nd2 := List.nodup_append.mp nd
    rcases List.mem_append.mp hx with hx | hx
    · exact nd2.2.2 q hx q List.mem_cons_self rfl
    · exact (List.nodup_cons.mp nd2.2.1).1 hx
  obtain ⟨u, hu, c⟩ := o.mem.at_ q (.l As) (List.mem_append_right _ List.mem_cons_self)
  obtain ⟨vs, rfl, rv⟩ := c.lst
  obtain ⟨v, hv, rvv⟩ := EnvV.get o.env hj
  have ev : v = .ref q := rvv
  subst ev
  have lv : (lst As).p X.K (Ms fr (m6 ++ m7)) H (.ref q) := ⟨q, vs, rfl, ⟨hu, nq⟩, rv.st xs⟩
  have env2 := (o.env.st xs).set lv j
  rw [set_self hv] at env2
  have mem2 : MemV X.K fr (m6 ++ m7) H := by
    refine ⟨o.mem.frm, fun b cc hb => ?_, ?_⟩
    · have hb2 : (b, cc) ∈ m6 ++ (q, Cell.l As) :: m7 := by
        rcases List.mem_append.mp hb with hb | hb
        · exact List.mem_append_left _ hb
        · exact List.mem_append_right _ (List.mem_cons_of_mem _ hb)
      obtain ⟨u, e, r⟩ := o.mem.at_ b cc hb2
      exact ⟨u, e, r.st xs⟩
    · unfold Ms at nd ⊢
      rw [List.map_append, List.map_cons] at nd
      rw [List.map_append]
      exact nd.sublist (List.Sublist.append (List.Sublist.refl _) (List.Sublist.append (List.Sublist.refl _) (List.sublist_cons_self _ _)))
  exact h fr σ H ⟨env2, mem2⟩ D ⟨fun ρ' m' σ' H' k x o' => g.nx ρ' m' σ' H' k (xs.trans x) o', fun A m' v' H' k x o' r => g.rt A m' v' H' k (xs.trans x) o' r, fun ρ' m' σ' H' k x o' => g.bk ρ' m' σ' H' k (xs.trans x) o', fun ρ' m' σ' H' k x o' => g.ct ρ' m' σ' H' k (xs.trans x) o'⟩
end
end AL
namespace AL
open PySem PySem.Spec L2
open PyProof.Rows hiding St
/-! a tuple that is known to have no dict: its methods can be called -/
def tun (As : List AV) : AV := ⟨fun K M H v => ∃ a o vs, v = .ref a ∧ H a = some (.frz o (.tup vs)) ∧ o.dict = none ∧ a ∉ M ∧ AllV K M H As vs,
  fun ⟨a, o, vs, e, h, d, n, r⟩ x => ⟨a, o, vs, e, x.old _ _ n h, d, (x.rd (.inr ⟨o, h⟩) n).2, r.st x⟩⟩
theorem tun_tup {As : List AV} {K : PySem.W.Frag} {M : List Addr} {H : Hp} {v : V} (h : (tun As).p K M H v) : (tup As).p K M H v := by
  obtain ⟨a, o, vs, e, h, d, n, r⟩ := h
  exact ⟨a, vs, e, .inl ⟨.inr ⟨o, h⟩, n⟩, r⟩
/-- tuple(xs) of a list: the new tuple as it stands -/
def rTun (K : PySem.W.Frag) : List V → Hp → VK → Prop := fun xs H Q => ∃ p ys, xs = [V.ref p] ∧ SqL K H p ys ∧ ∀ l o, H l = none → o.dict = none → Q (.ref l) (upd H l (.frz o (.tup ys)))
theorem call_tun {X : Cx} : CallR X (.type "tuple") (rTun X.K) := by
  intro pins s σ H xs us Q I r h
  obtain ⟨p, ys, rfl, hq, q⟩ := h
  obtain ⟨u, rfl, rx⟩ := vals1 r
  cases rx
  obtain ⟨its, r', pl, hz⟩ := I.list hq
  have hlen := r'.length
  refine call_tuple_list pl.isList (fun h' kp => ?_) (by simp only [List.size_toArray] <;> omega)
  have I1 : Inv X pins σ H { s with heap := h' } := I.kept (t' := s.toks) kp
  have g : (h'.push { cls := .type "tuple", data := .seq its.toArray }).get? h'.objs.size = some { cls := .type "tuple", data := .seq its.toArray } := Heap.get?_push_size _ rfl
  have I2 : Inv X pins σ (upd H h'.objs.size (.frz { cls := .type "tuple", data := .seq its.toArray } (.tup ys))) { s with heap := h'.push { cls := .type "tuple", data := .seq its.toArray } } :=
    I1.laid (t' := s.toks) (fun b o e => Heap.get?_push_of_some _ e) (Nat.le_refl _) (show ObjOk X.prog X.w _ _ _ (.frz _ (.tup ys)) from ⟨g, hz, its, r', IsTup.new _ _⟩)
  exact ⟨.ref h'.objs.size, _, I2, rfl, q _ _ (I1.hok.fresh (Nat.le_refl _)) rfl⟩
section
variable {P : Program} {w : World} {K : PySem.W.Frag} {mg : Str → Option Value} {base : Heap} {N : List Str} {sc : Scope} {df : Bool} {k : Nat} {X : Cx} {ρ : Rho} {m : Mem} {Kt : KA} {pos : Pos} {e f : Expr}
theorem abs_tun : AbsCall K (rTun K) fun As m Kt => ∃ A Bs, As = [A] ∧ IsLs m A Bs ∧ Kt (tun Bs) m := by
  rintro As m Kt fr ρ σ H vs Q ⟨A, Bs, rfl, hs, q⟩ o r g
  cases r with
  | cons r t =>
    cases t
    obtain ⟨p, ys, rfl, h, rr⟩ := hs _ _ _ _ o.mem r
    refine ⟨p, ys, rfl, .inl (.inl h), fun l ob hl hd => ?_⟩
    exact g _ m _ _ q (.alloc hl) (o.alloc hl) ⟨l, ob, _, rfl, upd_same, hd, o.mem.notin hl, rr.st (.alloc hl)⟩
theorem b_tun (a : At P w K mg base N sc df k X) (Z : Blt mg) {p : Pos} (hg : sc.names.lookup ("tuple" : Str) = some .globalImplicit) (h : WA X [e] ρ m fun As m1 => ∃ A Bs, As = [A] ∧ IsLs m1 A Bs ∧ Kt (tun Bs) m1)
    (he : starEach (e :: []) X.env = (false, eval e X.env) :: starEach [] X.env := by rfl) (hpl : (backTo pos (starEach [] X.env)).any (·.1) = false := by rfl) : WE X (.Call (.Name "tuple" p) [e] [] pos) ρ m Kt :=
  we_callTy a call_tun abs_tun hg Z.tuple (by decide +kernel) h (by decide) (by decide) he hpl
/-- t.count(d), over data -/
def rCntT (K : PySem.W.Frag) : V → List V → Hp → VK → Prop := fun x xs H Q => ∃ (p : Addr) (ys : List V) (y : V) (ds : List PyData) (d : PyData), x = .ref p ∧ xs = [y] ∧ SqT K H p ys ∧ DpAll K H ys ds ∧ Dp K H y d ∧ PyData.plainAll ds = true ∧ d.plain = true ∧ d.depth < 32 ∧ Q (.int ((ds.countP fun z => PyData.eqv z d : Nat) : Int)) H
theorem mt_countT {X : Cx} (hu : X.A.units + 64 < cLine) : MtR X "tuple.count" (rCntT X.K) := by
  intro pins s σ H x xs v us Q I rx rxs h
  obtain ⟨p, ys, y, ds, d, rfl, rfl, hs, hds, hd, p1, p2, p3, q⟩ := h
  cases rx
  obtain ⟨u, rfl, ru⟩ := rxs.one
  obtain ⟨its, rv, pl, hlen⟩ := I.tuple hs
  obtain ⟨as, ra⟩ := Dp.readsAll I ds _ _ hds rv
  obtain ⟨bs, rb⟩ := Dp.reads I d _ _ hd ru
  exact SeqAt.count_tuple_data (vs := its.toArray) pl (by simpa using ra) rb p1 p2 (by omega) ⟨.int ((ds.countP fun z => PyData.eqv z d : Nat) : Int), H, I.tok _, ⟨s.toks, rfl⟩, q⟩
/-- a method of a tuple as it stands -/
def tTM (r : V → List V → Hp → VK → Prop) (to : TE) (t : TA) : TE := fun σ H Q => to σ H fun x H1 => (∃ a o vs, x = .ref a ∧ H1 a = some (.frz o (.tup vs)) ∧ o.dict = none) ∧ t σ H1 fun xs H2 => r x xs H2 Q
theorem pe_tm {o e : Expr} {es : List Expr} {to : TE} {t : TA} {name : Str} {apos cpos : Pos} {id : String} {r : V → List V → Hp → VK → Prop} (slot : Slot "tuple" name id) (hty : typeOf (.builtin id) = pure (.type "method_descriptor")) (hm : MtR X id r) (ho : PE X o to) (ha : PA X (e :: es) t)
    (hbase : attributeBase o name X.env (eval o X.env) = eval o X.env)
    (hfew : ((backTo cpos (starEach (e :: es) X.env)).all (fun x => !x.1) && (backToKw cpos (keywordEach [] X.env)).all (fun x => x.1.isSome)
      && decide ((e :: es).length + ([] : List Keyword).length + (if ([] : List Keyword).isEmpty then 0 else 1) < 30)) = true)
    (hline : (apos.endLine == cpos.line) = true) (hs : starEach (e :: es) X.env = (false, eval e X.env) :: starEach es X.env) (hplain : (backTo cpos (starEach es X.env)).any (·.1) = false) :
    PE X (.Call (.Attribute o name apos) (e :: es) [] cpos) (tTM r to t) := by
  refine ⟨fun pins s σ H Q I h => ?_⟩
  refine wpAny_Call_method_late hbase hfew hline rfl (thn (ho.run pins s σ H _ I h) fun v s1 ⟨x, H1, I1, r1, ty, q1⟩ => ?_)
  obtain ⟨a, ob, vs, rfl, hH, hd⟩ := ty
  cases (show v = Value.ref a from r1)
  obtain ⟨g, _, its, _, o', h1, h2, _⟩ := (show ObjOk X.prog X.w H1 s1.heap a (.frz ob (.tup vs)) from I1.hok a _ hH)
  refine ⟨"tuple", id, PySem.F.plainAttrs_tuple, slot, hty, ⟨o', h1, h2⟩, fun b e => by cases e; exact ⟨ob, g, hd⟩, ?_⟩
  have hA := ha.run cpos pins s1 σ H1 _ I1 q1
  rw [hs] at hA ⊢
  refine Calls.callWith_builtin (by show (false || (backTo cpos (starEach es X.env)).any (·.1)) = false; rw [hplain] <;> rfl) (Calls.evalArgs_plain ?_)
  exact thn hA fun us s2 ⟨ws, H2, I2, r2, q2⟩ => hm pins s2 σ H2 _ ws _ us Q I2 r1 r2 q2
theorem we_countT (a : At P w K mg base N sc df k X) {o : Expr} {apos : Pos} (h : WE X o ρ m fun A m1 => ∃ As, A = tun As ∧ WE X e ρ m1 fun B m2 => ∃ ds d, AllDat m2 As ds ∧ IsDat m2 B d ∧ PyData.plainAll ds = true ∧ d.plain = true ∧ d.depth < 32 ∧ Kt (int ((ds.countP fun z => PyData.eqv z d : Nat) : Int)) m2)
    (hbase : attributeBase o "count" X.env (eval o X.env) = eval o X.env)
    (hfew : ((backTo pos (starEach (e :: []) X.env)).all (fun x => !x.1) && (backToKw pos (keywordEach [] X.env)).all (fun x => x.1.isSome)
      && decide ((e :: ([] : List Expr)).length + ([] : List Keyword).length + (if ([] : List Keyword).isEmpty then 0 else 1) < 30)) = true)
    (hline : (apos.endLine == pos.line) = true) (hs : starEach (e :: []) X.env = (false, eval e X.env) :: starEach [] X.env) :
    WE X (.Call (.Attribute o "count" apos) [e] [] pos) ρ m Kt := by
  intro fr σ H hh Q g
  have hu : X.A.units + 64 < cLine := hu_at a
  refine le_E (pe_tm PySem.F.slot_tuple_count PySem.F.type_tuple_count (mt_countT hu) wpE_pe (pa_cons wpE_pe pa_nil hs) hbase hfew hline hs rfl) ?_
  refine h.to hh fun A m1 v H1 ⟨As, ea, h1⟩ x1 o1 r1 => ?_
  subst ea
  obtain ⟨p, ob, vs, rfl, hH, hd, nm, rr⟩ := id r1
  refine ⟨⟨p, ob, vs, rfl, hH, hd⟩, ?_⟩
  refine h1.to o1 fun B m2 b H2 ⟨ds, d, hds, hd', p1, p2, p3, kq⟩ x2 o2 r2 => ?_
  obtain ⟨p', vs2, e, t, rr2⟩ := tun_tup ((tun As).st r1 x2)
  cases e
  exact ⟨p, vs2, b, ds, d, rfl, rfl, t.sq, hds.dp o2.mem rr2, hd' _ _ _ _ o2.mem r2, p1, p2, p3, g _ _ _ _ kq (x1.trans x2) o2 rfl⟩
end
end AL
/-! ALD: dicts made by one comprehension, their keys tuples of numbers and texts; they stay as they are. -/
namespace AL
open PySem PySem.Spec L2
open PyProof.Rows hiding St
abbrev DEnt := List (List Key × Addr × Value)
/-- the dict at D has these entries -/
def dcAt (P : Program) (w : World) (D : Addr) (xs : DEnt) : Heap → Prop := fun h => ∃ o es ep, h.get? D = some o ∧ o.ExactDict ∧ o.data = .dict es ep ∧ es.toList = xs.map (entryOfKey (tupleKind (mixKind P w)))
def oD (P : Program) (w : World) (D : Addr) (xs : DEnt) : HO := .ext (dcAt P w D xs)
theorem oD_ok {P : Program} {w : World} {H : Hp} {h : Heap} {D : Addr} {xs : DEnt} (d : dcAt P w D xs h) : ObjOk P w H h D (oD P w D xs) := by
  refine ⟨d, ?_, fun h1 h2 ⟨o, es, ep, e, r⟩ k => ⟨o, es, ep, k o e, r⟩⟩
  obtain ⟨o, _, _, e, _⟩ := d
  exact ⟨o, e⟩
theorem oD_of {P : Program} {w : World} {H : Hp} {h : Heap} {D : Addr} {xs : DEnt} (ok : HOk P w H h) (e : H D = some (oD P w D xs)) : dcAt P w D xs h := (show ObjOk P w H h D (.ext (dcAt P w D xs)) from ok D _ e).1
section
variable {X : Cx} {pins : List (Addr × Obj)} {σ : St} {H : Hp} {s : Shared}
theorem key_sq {ks : List Key} {b : Addr} (I : Inv X pins σ H s) (h : SqT X.K H b (ks.map kV)) : (tupleKind (mixKind X.prog X.w)).is s.heap ks b := by
  obtain ⟨its, r, ⟨o, h1, h2, n, h3⟩, _⟩ := I.tuple h
  exact ⟨o, its.toArray, n, h1, h2, h3, by simpa using items_are r⟩
abbrev KeysAt (K : PySem.W.Frag) (H : Hp) (xs : DEnt) : Prop := ∀ x ∈ xs, SqT K H x.2.1 (x.1.map kV)
theorem dofh {D : Addr} {xs : DEnt} (I : Inv X pins σ H s) (e : H D = some (oD X.prog X.w D xs)) (hk : KeysAt X.K H xs) (hn : (xs.map (·.1)).Nodup) : s.heap.DictOfH (tupleKind (mixKind X.prog X.w)) D xs := by
  obtain ⟨o, es, ep, h1, h2, h3, h4⟩ := oD_of I.hok e
  exact ⟨o, es, ep, h1, h2, h3, h4, fun x hx => key_sq I (hk x hx), hn⟩
/-- D[ks] = v by a comprehension, ks a new key -/
theorem d_dictSetX {E : Value → Shared → Prop} {D b : Addr} {xs : DEnt} {ks : List Key} {r : Value} {Q : Unit → Shared → Prop} (hu : X.A.units + 1 < cLine) (I : Inv X pins σ H s) (hD : H D = some (oD X.prog X.w D xs)) (hk : KeysAt X.K H xs) (hn : (xs.map (·.1)).Nodup) (hkey : SqT X.K H b (ks.map kV)) (hnew : ks ∉ xs.map (·.1)) (hz : xs.length ≤ sizeLine)
    (h : ∀ s', Inv X pins σ (upd H D (oD X.prog X.w D (xs ++ [(ks, b, r)]))) s' → Q () s') : wpAny (model X.prog X.w) X.A (dictSet D (.ref b) r) Q E s := by
  refine wpAny_dictSet_heap (hsz := hz) (show X.A.units < cLine by omega) (key_sq I hkey) (dofh I hD hk hn) fun h' dd' hs => h _ ?_
  rw [storedH_new (atKey_none_of_get fun j p hj => hnew (List.mem_map.mpr ⟨(ks, p), List.mem_of_getElem? hj, rfl⟩))] at dd'
  obtain ⟨o, es, ep, h1, h2, h3, h4, _, _⟩ := dd'
  exact d_write I (by rw [hD]; exact True.intro) hs ⟨o, h1⟩ (oD_ok ⟨o, es, ep, h1, h2, h3, h4⟩)
end
section
variable {X : Cx}
/-- what one turn wants of the names' state and of its own end: a new key, its value, what holds behind them -/
def EntW (P : Program) (w : World) (Kf : PySem.W.Frag) (D : Addr) (tk tv : TE) (Nx : Hp → Prop) : St → Hp → Prop := fun ρ G => tk ρ G fun y G1 => tv ρ G1 fun z G2 => ∃ xs ks b, y = .ref b ∧ SqT Kf G2 b (ks.map kV) ∧ G2 D = some (oD P w D xs) ∧ KeysAt Kf G2 xs ∧ (xs.map (·.1)).Nodup ∧ ks ∉ xs.map (·.1) ∧ xs.length < sizeLine ∧ ∀ r, RelV z r → Nx (upd G2 D (oD P w D (xs ++ [(ks, b, r)])))
/-- {k: v for ..} with tuples as keys: D the new dict, W what holds ahead of each turn -/
def tDcX (P : Program) (w : World) (Kf : PySem.W.Frag) (wi : TI) (g : TG) (tt : TT) (tk tv : TE) (vs : List Nat) : TE := fun σ H Q => wi σ H fun J H1 => ∀ D, H1 D = none → ∃ W : Nat → Nat → Hp → Prop, (∃ m, W 0 m (upd H1 D (oD P w D []))) ∧ ∀ i m H, W i m H →
  (J.stop i H ∧ Q (.ref D) H) ∨ (J.go i H ∧ ∃ Nx : Hp → Prop, (∀ H', Nx H' → ∃ m', m' < m ∧ W (i + 1) m' H') ∧ ∀ x H', J.yld i H x H' → g x (wipe σ vs) H' fun σ2 H2 => wipe σ2 vs = wipe σ vs ∧ tt σ2 H2 fun b H3 =>
    if b = true then EntW P w Kf D tk tv Nx σ2 H3 else Nx H3)
section
variable {s3 : Shared} {H3 : Hp} {scope : Scope} {ce : Env} {fp : List Addr} {σ : St}
/-- a block's own iterator objects are nobody else's -/
theorem blk_free {ρ : St} {G : Hp} {t : Shared} (I : Inv (X.blk s3 H3 scope ce fp) [] ρ G t) (n : ∀ b ∈ fp, G b = none) : ∀ b ∈ fp, FpOk (X.blk s3 H3 scope ce fp) [] G b := by
  intro b hb
  have q := I.ok.exf b hb
  exact ⟨n b hb, q.1, I.ok.exfs b hb, .inl hb, fun x c e => q.2 x c e, fun p hp => by simp at hp⟩
/-- the state between two turns -/
def Betw (X : Cx) (s3 : Shared) (H3 : Hp) (scope : Scope) (ce : Env) (fp : List Addr) (tn : Nat → Heap → Prop) (ρ : St) (W : Nat → Nat → Hp → Prop) (n : Nat) (t : Shared) : Prop :=
  ∃ i G, Inv (X.blk s3 H3 scope ce fp) [] ρ G t ∧ tn i t.heap ∧ (∀ b ∈ fp, G b = none) ∧ W i n G
/-- a turn ends: its pins go, its names are wiped -/
theorem betw_end {tg : Expr} {J : It} {it : Addr} {tn : Nat → Heap → Prop} {vs : List Nat} {σ2 : St} {G : Hp} {t u : Shared} {W : Nat → Nat → Hp → Prop} {n m i : Nat} (T : Turn X.prog X.w X.K tg J fp it tn) (hw : wipe σ2 vs = wipe σ vs) (st : tn (i + 1) u.heap)
    (I : Inv (X.blk s3 H3 scope ce fp) ([] ++ pinsAt fp u.heap) σ2 G t) (hm : m < n) (w : W (i + 1) m G) : ∃ m, m < n ∧ Betw X s3 H3 scope ce fp tn (wipe σ vs) W m t := by
  have held : ∀ b ∈ fp, ∀ o, u.heap.get? b = some o → t.heap.get? b = some o ∧ G b = none := by
    intro b hb o e
    obtain ⟨q1, q2, _⟩ := I.pin (b, o) (by simp [mem_pinsAt hb e])
    exact ⟨q1, q2⟩
  refine ⟨m, hm, i + 1, G, ?_, T.keep _ _ _ st fun b hb o e => (held b hb o e).1, fun b hb => ?_, w⟩
  · have back := I.unpinned (pins := [])
    refine back.weak (by rw [← hw, wipe_length]) fun j v e => ?_
    rw [← hw] at e
    exact (wipe_some e).1
  · obtain ⟨o, e, _⟩ := T.obj _ _ st b hb
    exact (held b hb o e).2
/-- the loop of the block -/
theorem dcx_loop {R : Result → Shared → Prop} {tg iter kx vx : Expr} {ifs : List Expr} {pos : Pos} {J : It} {it D : Addr} {tn : Nat → Heap → Prop} {vs : List Nat} {g : TG} {tt : TT} {tk tv : TE} {W : Nat → Nat → Hp → Prop} {Qd : Hp → Prop} (hu : X.A.units + 1 < cLine) (hc : X.calm = true) (T : Turn X.prog X.w X.K tg J fp it tn) (hce : (X.blk s3 H3 scope ce fp).env = ce)
    (pg : PG (X.blk s3 H3 scope ce fp) tg g) (pt : PTs (X.blk s3 H3 scope ce fp) ifs tt) (pk : PE (X.blk s3 H3 scope ce fp) kx tk) (pv : PE (X.blk s3 H3 scope ce fp) vx tv)
    (turn : ∀ i m H, W i m H → (J.stop i H ∧ Qd H) ∨ (J.go i H ∧ ∃ Nx : Hp → Prop, (∀ H', Nx H' → ∃ m', m' < m ∧ W (i + 1) m' H') ∧ ∀ x H', J.yld i H x H' → g x (wipe σ vs) H' fun σ2 H2 => wipe σ2 vs = wipe σ vs ∧ tt σ2 H2 fun b H3 => if b = true then EntW X.prog X.w X.K D tk tv Nx σ2 H3 else Nx H3))
    (out : ∀ t G, Inv (X.blk s3 H3 scope ce fp) [] (wipe σ vs) G t → Qd G → R (.ok .next) t) {n : Nat} {t : Shared} (h : Betw X s3 H3 scope ce fp tn (wipe σ vs) W n t) :
    codeAny (model X.prog X.w) X.A (.compLoop (.DictComp kx vx [⟨tg, iter, ifs, 0⟩] scope pos) 0 (.ref it) (.ref D) ce) R t := by
  refine compLoop_anyD (Betw X s3 H3 scope ce fp tn (wipe σ vs) W) (fun n t h => ?_) n h
  obtain ⟨i, G, I, st, nf, w⟩ := h
  have fr := blk_free I nf
  rcases turn i n G w with ⟨stop, fin⟩ | ⟨go, Nx, less, item⟩
  · exact thnF (T.done (X.blk s3 H3 scope ce fp) rfl rfl rfl hc i [] t _ G (fun _ _ => False) I fr st stop) fun r t1 ⟨er, I1⟩ => by
      subst er
      exact out t1 G I1 fin
  · refine thnF (T.item (X.blk s3 H3 scope ce fp) rfl rfl rfl hc i [] t _ G (fun _ _ => False) I fr st go) fun r t1 ⟨u, er, h1⟩ => ?_
    subst er
    refine thnF h1 fun _ t2 ⟨x, G2, I2, rx, y, st2, nf2⟩ => ?_
    have Ip := I2.pinned (blk_free I2 nf2) (T.obj _ _ st2)
    refine thnF (pg.run _ t2 _ G2 x u _ Ip rx (item x G2 y)) fun _ t3 ⟨σ3, G3, I3, hw, q3⟩ => ?_
    refine thnF (pt.run _ t3 σ3 G3 _ I3 q3) fun yes t4 ⟨G4, I4, q4⟩ => ?_
    cases yes with
    | false =>
      obtain ⟨m, hm, wm⟩ := less G4 (by simpa using q4)
      exact betw_end T hw st2 I4 hm wm
    | true =>
      have q4' : EntW X.prog X.w X.K D tk tv Nx σ3 G4 := by simpa using q4
      refine thnF (pk.run _ t4 σ3 G4 _ I4 q4') fun kv t5 ⟨y5, G5, I5, r5, q5⟩ => ?_
      refine thnF (pv.run _ t5 σ3 G5 _ I5 q5) fun vv t6 ⟨z6, G6, I6, r6, xs, ks, b, ey, kb, hd, ka, nd, new, sz, nx⟩ => ?_
      subst ey
      cases (show kv = Value.ref b from r5)
      exact d_dictSetX (X := X.blk s3 H3 scope ce fp) hu I6 hd ka nd kb new (Nat.le_of_lt sz) fun t7 I7 => by
        obtain ⟨m, hm, wm⟩ := less _ (nx _ r6)
        exact betw_end T hw st2 I7 hm wm
end
/-- the whole comprehension -/
theorem dcx_all {pins : List (Addr × Obj)} {s : Shared} {σ : St} {H : Hp} {Q : VK} {kx vx tg iter : Expr} {ifs : List Expr} {scope : Scope} {own : List (Str × Nat)} {pos pos' : Pos} {wi : TI} {g : TG} {tt : TT} {tk tv : TE} {use : Option (Value → Sem Unit)} {Qf : Value → Shared → Prop}
    (hu : X.A.units + 1 < cLine) (hc : X.calm = true) (hN : X.N.Nodup) (I : Inv X pins σ H s) (hi : PI X tg iter wi) (ok : BlkOk X.N X.env.scope scope own)
    (hg : ∀ s H C cl fp, PG (X.blk s H scope (compEnvC scope cl C X.env) fp) tg g) (ht : ∀ s H C cl fp, PTs (X.blk s H scope (compEnvC scope cl C X.env) fp) ifs tt)
    (hk : ∀ s H C cl fp, PE (X.blk s H scope (compEnvC scope cl C X.env) fp) kx tk) (hv : ∀ s H C cl fp, PE (X.blk s H scope (compEnvC scope cl C X.env) fp) vx tv) (hs : ∀ x, foldedSetIterable iter X.env x = pure x)
    (h : tDcX X.prog X.w X.K wi g tt tk tv (own.map (·.2)) σ H Q)
    (back : ∀ D C t m G, Inv X pins σ G t → Q (.ref D) G → t.heap.Ns C m → FpOk X pins G C → compPost (model X.prog X.w) X.A X.xe use Qf (.ref D) C (.ok .next) t) :
    wpAny (model X.prog X.w) X.A (comprehension (.DictComp kx vx [⟨tg, iter, ifs, 0⟩] scope pos) scope X.env pos' newDict false (eval iter X.env) use) Qf X.xe s := by
  have seen : ∀ y ∈ scope.names, y.2 = .free → ∃ c, X.env.cells.lookup y.1 = some c := fun y hy e => (ok.free y hy e).elim (fun z => I.ok.has _ (.inl z)) fun z => I.ok.has _ (.inr z)
  refine wpAny_comprehension_free (use := use) rfl hs (closure_ok seen) ok.kind (fun y hy e => by rw [ok.uniq y hy, e]) (thn (hi.run pins s σ H _ I h) fun _ s1 h1 => thn h1 fun _ s2 ⟨it, fp, tn, J, H2, ei, I2, T, st2, f2, q⟩ => ?_)
  subst ei
  have sizes : ∀ b ∈ fp, b < s2.heap.objs.size := fun b hb => let ⟨_, e, _⟩ := T.obj _ _ st2 b hb; Heap.lt_size e
  refine wpAny_newObj_type (newEnv_comp ?_)
  generalize hD : s2.heap.objs.size = D at sizes
  obtain ⟨W, ⟨m0, w0⟩, turn⟩ := q D (I2.hok.fresh (Nat.le_of_eq hD))
  let G0 : Hp := upd H2 D (oD X.prog X.w D [])
  let dO : Obj := { cls := .type "dict", data := .dict #[] }
  let s3 : Shared := { s2 with heap := s2.heap.push dO }
  have kept3 : ∀ b o, s2.heap.get? b = some o → s3.heap.get? b = some o := fun b o e => Heap.get?_push_of_some _ e
  have I3 : Inv X pins σ G0 s3 := by
    refine I2.laid (t' := s2.toks) kept3 (Nat.le_of_eq hD) (oD_ok ⟨dO, #[], 0, ?_, ⟨rfl, rfl, rfl⟩, rfl, rfl⟩)
    rw [← hD]; exact Heap.get?_push_size _ rfl
  have f3 : ∀ b ∈ fp, FpOk X pins G0 b ∧ b < s3.heap.objs.size := fun b hb => by
    have lt := sizes b hb
    have e0 : G0 b = none := (upd_ne (Nat.ne_of_lt lt)).trans (f2 b hb).1
    refine ⟨⟨e0, (f2 b hb).2⟩, ?_⟩
    show b < (s2.heap.push dO).objs.size
    rw [Heap.size_push, hD]
    exact Nat.lt_succ_of_lt lt
  have I4 := block_start I3 ok hN f3
  generalize hcl : cellsFrom (s3.heap.objs.size + 1) scope.names (cloFrom X.env.cells scope.names []) = cl at I4
  have st4 : tn 0 (pushCells (s3.heap.push { cls := .type "dict", data := .dict #[] }) scope.names) := T.keep _ _ _ st2 fun b _ o e => pushCells_keeps _ _ _ _ (Heap.get?_push_of_some _ (kept3 b o e))
  have loop := dcx_loop (X := X) (σ := σ) (kx := kx) (vx := vx) (iter := iter) (ifs := ifs) (pos := pos) (D := D) (vs := own.map (·.2)) (Qd := Q (.ref D)) (R := compPost (model X.prog X.w) X.A X.xe use Qf (.ref D) s3.heap.objs.size) hu hc T rfl (hg s3 G0 s3.heap.objs.size cl fp) (ht s3 G0 s3.heap.objs.size cl fp) (hk s3 G0 s3.heap.objs.size cl fp) (hv s3 G0 s3.heap.objs.size cl fp) turn (fun t G It qG => by
    have n0 : G s3.heap.objs.size = none := It.free
    obtain ⟨m, hn, _⟩ := It.loc
    refine back D s3.heap.objs.size t m G (I3.call' (ch := fp) It.os It.base It.hok It.bare fun b hb => ?_) qG hn (I3.fpOk (Nat.le_refl _) n0)
    obtain ⟨_, c1, c2, c3, c4, c5⟩ := (f3 b hb).1
    exact ⟨c3, c1, c4, c5⟩) ⟨0, G0, I4, st4, fun b hb => (f3 b hb).1.1, w0⟩
  have whole := codeAny_compStart_dict loop (T.self X.A 0 _ _ _ st4 loop)
  subst hcl
  exact whole
theorem pe_dcX {kx vx tg iter : Expr} {ifs : List Expr} {scope : Scope} {own : List (Str × Nat)} {pos : Pos} {wi : TI} {g : TG} {tt : TT} {tk tv : TE} (hu : X.A.units + 1 < cLine) (hc : X.calm = true) (hN : X.N.Nodup) (hi : PI X tg iter wi) (ok : BlkOk X.N X.env.scope scope own)
    (hg : ∀ s H C cl fp, PG (X.blk s H scope (compEnvC scope cl C X.env) fp) tg g) (ht : ∀ s H C cl fp, PTs (X.blk s H scope (compEnvC scope cl C X.env) fp) ifs tt)
    (hk : ∀ s H C cl fp, PE (X.blk s H scope (compEnvC scope cl C X.env) fp) kx tk) (hv : ∀ s H C cl fp, PE (X.blk s H scope (compEnvC scope cl C X.env) fp) vx tv) (hs : ∀ x, foldedSetIterable iter X.env x = pure x) :
    PE X (.DictComp kx vx [⟨tg, iter, ifs, 0⟩] scope pos) (tDcX X.prog X.w X.K wi g tt tk tv (own.map (·.2))) where
  run := fun pins s σ H Q I h => by
    rw [arm_eval_DictComp]
    refine dcx_all hu hc hN I hi ok hg ht hk hv hs h fun D C t m G It qG ns free => ⟨m, ns, fun h2 same => ⟨.ref D, G, ?_, rfl, qG⟩⟩
    exact It.turned (t' := t.toks) (fun b o ne e => (same.2 b ne).trans e) free.1 free.2.1 free.2.2.2.1 free.2.2.2.2.1 free.2.2.2.2.2
end
/-! ### the dict as a value -/
def DRel (K : PySem.W.Frag) (M : List Addr) (H : Hp) (q : List Key × AV) (x : List Key × Addr × Value) : Prop := q.1 = x.1 ∧ TupAt K M H x.2.1 (x.1.map kV) ∧ ∃ v, RelV v x.2.2 ∧ q.2.p K M H v
theorem DRel.st {K : PySem.W.Frag} {M M' : List Addr} {H H' : Hp} {q : List Key × AV} {x : List Key × Addr × Value} (h : DRel K M H q x) (e : Ext M H M' H') : DRel K M' H' q x := by
  obtain ⟨h1, h2, v, h3, h4⟩ := h
  exact ⟨h1, h2.st e, v, h3, q.2.st h4 e⟩
abbrev AllD (K : PySem.W.Frag) (M : List Addr) (H : Hp) : List (List Key × AV) → DEnt → Prop := Paired (DRel K M H)
theorem AllD.st {K : PySem.W.Frag} {M M' : List Addr} {H H' : Hp} {qs : List (List Key × AV)} {xs : DEnt} (h : AllD K M H qs xs) (e : Ext M H M' H') : AllD K M' H' qs xs := Paired.mapP h fun _ _ r => r.st e
theorem AllD.app {K : PySem.W.Frag} {M : List Addr} {H : Hp} : ∀ {qs rs : List (List Key × AV)} {xs ys : DEnt}, AllD K M H qs xs → AllD K M H rs ys → AllD K M H (qs ++ rs) (xs ++ ys)
  | _, _, _, _, .nil, s => s
  | _, _, _, _, .cons r t, s => .cons r (AllD.app t s)
theorem AllD.keys {K : PySem.W.Frag} {M : List Addr} {H : Hp} : ∀ {qs : List (List Key × AV)} {xs : DEnt}, AllD K M H qs xs → qs.map (·.1) = xs.map (·.1)
  | _, _, .nil => rfl
  | _, _, .cons r t => by rw [List.map_cons, List.map_cons, r.1, AllD.keys t]
theorem AllD.sq {K : PySem.W.Frag} {M : List Addr} {H : Hp} : ∀ {qs : List (List Key × AV)} {xs : DEnt}, AllD K M H qs xs → KeysAt K H xs
  | _, _, .nil, x, hx => by cases hx
  | _, _, .cons r t, x, hx => by
    rcases List.mem_cons.mp hx with e | hx
    · subst e; exact r.2.1.sq
    · exact AllD.sq t x hx
def dct (P : Program) (w : World) (kvs : List (List Key × AV)) : AV := ⟨fun K M H v => ∃ (D : Addr) (xs : DEnt), v = .ref D ∧ H D = some (oD P w D xs) ∧ D ∉ M ∧ (xs.map (·.1)).Nodup ∧ AllD K M H kvs xs,
  fun h x => by
    obtain ⟨D, xs, e, h, n, d, r⟩ := h
    exact ⟨D, xs, e, x.old _ _ n h, (x.rd (.inl h) n).2, d, r.st x⟩⟩
def lookK {β : Type} (k : List Key) : List (List Key × β) → Option β
  | [] => none
  | q :: r => if k = q.1 then some q.2 else lookK k r
theorem AllD.look {K : PySem.W.Frag} {M : List Addr} {H : Hp} {k : List Key} {C : AV} : ∀ {qs : List (List Key × AV)} {xs : DEnt}, AllD K M H qs xs → lookK k qs = some C → ∃ p v, atKey xs k = some p ∧ RelV v p.2 ∧ C.p K M H v
  | _, _, .nil, h => by cases h
  | q :: qs, x :: xs, .cons r t, h => by
    obtain ⟨r1, r2, v, r3, r4⟩ := r
    by_cases e : k = q.1
    · subst e
      have h' : q.2 = C := by simpa [lookK] using h
      subst h'
      exact ⟨x.2, v, by simp [atKey, r1], r3, r4⟩
    · have h' : lookK k qs = some C := by
        unfold lookK at h
        rw [if_neg e] at h
        exact h
      obtain ⟨p, u, h1, h2, h3⟩ := AllD.look t h'
      refine ⟨p, u, ?_, h2, h3⟩
      have e2 : ¬ x.1 = k := fun z => e (by rw [← z, r1])
      simpa [atKey, List.find?_cons, e2] using h1
def keyA : Key → AV
  | .inl i => int i
  | .inr s => str s
theorem keyA_v {K : PySem.W.Frag} {M : List Addr} {H : Hp} : ∀ {ks : List Key} {vs : List V}, AllV K M H (ks.map keyA) vs → vs = ks.map kV
  | [], _, .nil => rfl
  | k :: ks, _, .cons r t => by
    rw [List.map_cons, keyA_v t]
    cases k <;> (rw [show _ = _ from r]; rfl)
section
variable {P : Program} {w : World} {K : PySem.W.Frag} {mg : Str → Option Value} {base : Heap} {N : List Str} {sc : Scope} {df : Bool} {k : Nat} {X : Cx} {ρ : Rho} {m : Mem} {Kt : KA} {pos : Pos} {e f : Expr}
def rIxDX (P : Program) (w : World) (K : PySem.W.Frag) : R2 := fun x y H Q => ∃ D xs ks b p v, x = .ref D ∧ y = .ref b ∧ H D = some (oD P w D xs) ∧ KeysAt K H xs ∧ (xs.map (·.1)).Nodup ∧ SqT K H b (ks.map kV) ∧ atKey xs ks = some p ∧ RelV v p.2 ∧ Q v H
theorem ix_dx (hu : X.A.units + 1 < cLine) : IxR X (rIxDX X.prog X.w X.K) := by
  intro value slice pins s σ H x y v u Q I rx ry h hs
  obtain ⟨D, xs, ks, b, p, z, rfl, rfl, hD, hk, hn, hb, hp, rz, q⟩ := h
  cases rx
  cases (show u = Value.ref b from ry)
  have dd := dofh I hD hk hn
  exact tail_any dd.typeIs PySem.F.slot_dict_getitem.lookup (wpAny_getItem_heap (tupleKind_room_in1 hu) (key_sq I hb) dd hp ⟨z, H, I.tok _, rz, q⟩) hs
theorem we_dix (a : At P w K mg base N sc df k X) (h : WE X e ρ m fun A m1 => WE X f ρ m1 fun B m2 => ∃ kvs ks C, A = dct P w kvs ∧ B = tup (ks.map keyA) ∧ lookK ks kvs = some C ∧ Kt C m2) (hs : PlainIx f := by exact fun _ _ => rfl) : WE X (.Subscript e f pos) ρ m Kt := by
  have hu : X.A.units + 64 < cLine := hu_at a
  obtain ⟨rfl, rfl, rfl, rfl, rfl, _⟩ := a
  intro fr σ H o Q g
  refine le_E (pe_ix (ix_dx (by omega)) wpE_pe wpE_pe hs) ?_
  refine h.to o fun A m1 v H1 h1 x1 o1 r1 => h1.to o1 fun B m2 u H2 ⟨kvs, ks, C, eA, eB, hC, q⟩ x2 o2 r2 => ?_
  subst eA eB
  obtain ⟨D, xs, rfl, hD, _, hn, hr⟩ := (dct X.prog X.w kvs).st r1 x2
  obtain ⟨b, vs, rfl, hb, hv⟩ := r2
  rw [keyA_v hv] at hb
  obtain ⟨p, z, h3, h4, h5⟩ := hr.look hC
  exact ⟨D, xs, ks, b, p, z, rfl, rfl, hD, hr.sq, hn, hb.sq, h3, h4, g C m2 z H2 q (x1.trans x2) o2 h5⟩
end
end AL
/-! ALS: texts. -/
namespace AL
open PySem PySem.Spec L2
open PyProof.Rows hiding St
section
variable {P : Program} {w : World} {K : PySem.W.Frag} {mg : Str → Option Value} {base : Heap} {N : List Str} {sc : Scope} {df : Bool} {k : Nat} {X : Cx} {ρ : Rho} {m : Mem} {Kt : KA} {pos : Pos} {e f : Expr} {es : List Expr}
theorem abs_addS : AbsOp K (fun x y H Q => ∃ i j, x = .str i ∧ y = .str j ∧ i.length + j.length ≤ sizeLine ∧ Q (.str (i ++ j)) H) fun A B m Kt => ∃ i j : Str, A = str i ∧ B = str j ∧ i.length + j.length ≤ sizeLine ∧ Kt (str (i ++ j)) m := by
  rintro A B m Kt fr ρ σ H u v Q ⟨i, j, rfl, rfl, hl, q⟩ o rx ry g
  exact ⟨i, j, rx, ry, hl, g _ m _ H q (.refl _ _) o rfl⟩
theorem we_sadd (h : WE X e ρ m fun A m1 => WE X f ρ m1 fun B m2 => ∃ i j : Str, A = str i ∧ B = str j ∧ i.length + j.length ≤ sizeLine ∧ Kt (str (i ++ j)) m2) : WE X (.BinOp e .Add f pos) ρ m Kt :=
  we_bin op_add_str abs_addS h
variable (a : At P w K mg base N sc df k X)
theorem abs_strI : AbsCall K (fun xs H Q => ∃ i, xs = [.int i] ∧ i.natAbs.log2 < 1920 ∧ Q (.str (toString i)) H) fun As m Kt => ∃ i : Int, As = [int i] ∧ i.natAbs.log2 < 1920 ∧ Kt (str (toString i)) m := by
  rintro As m Kt fr ρ σ H vs Q ⟨i, rfl, hl, q⟩ o r g
  cases r with
  | cons r t =>
    cases t
    exact ⟨i, by rw [show _ = _ from r], hl, g _ m _ H q (.refl _ _) o rfl⟩
include a in
theorem b_strI (hm : mg "str" = none) {p : Pos} (hg : sc.names.lookup ("str" : Str) = some .globalImplicit) (h : WA X [e] ρ m fun As m1 => ∃ i : Int, As = [int i] ∧ i.natAbs.log2 < 1920 ∧ Kt (str (toString i)) m1)
    (he : starEach (e :: []) X.env = (false, eval e X.env) :: starEach [] X.env := by rfl) (hpl : (backTo pos (starEach [] X.env)).any (·.1) = false := by rfl) : WE X (.Call (.Name "str" p) [e] [] pos) ρ m Kt :=
  we_callTy a call_str_int abs_strI hg hm (by decide +kernel) h (by decide) (by decide) he hpl
/-- sep.join(xs) -/
theorem we_join {o : Expr} {apos : Pos} (h : WE X o ρ m fun A m1 => ∃ x : Str, A = str x ∧ WE X e ρ m1 fun B m2 => ∃ ys : List Str, IsSq m2 B (ys.map str) ∧ (ys.map (·.length)).sum + ys.length * x.length ≤ 16777216 ∧ Kt (str (Txt.join x ys)) m2)
    (hbase : attributeBase o "join" X.env (eval o X.env) = eval o X.env) (hline : (apos.endLine == pos.line) = true) (hs : starEach [e] X.env = [(false, eval e X.env)]) : WE X (.Call (.Attribute o "join" apos) [e] [] pos) ρ m Kt := by
  intro fr σ H hh Q g
  refine le_E (pe_join wpE_pe wpE_pe hs hbase hline) ?_
  refine h.to hh fun A m1 v H1 ⟨x, ea, h1⟩ x1 o1 r1 => ?_
  subst ea
  have ev : v = V.str x := r1
  subst ev
  refine ⟨⟨x, rfl⟩, h1.to o1 fun B m2 u H2 ⟨ys, hB, hl, q⟩ x2 o2 r2 => ?_⟩
  obtain ⟨p, vs, rfl, hsq, rr⟩ := hB _ _ _ _ o2.mem r2
  have hv : ∀ {ys : List Str} {vs : List V}, AllV X.K (Ms fr m2) H2 (ys.map str) vs → vs = ys.map V.str := by
    intro ys
    induction ys with
    | nil => intro vs r; cases r; rfl
    | cons y ys ih =>
      intro vs r
      cases r with
      | cons r t => rw [ih t, show _ = _ from r]; rfl
  rw [hv rr] at hsq
  exact ⟨x, p, ys, rfl, rfl, hsq, hl, g _ m2 _ H2 q (x1.trans x2) o2 rfl⟩
/-! f-strings -/
def WJ (X : Cx) (es : List Expr) (ρ : Rho) (m : Mem) (acc : Str) (Kj : Str → Mem → Prop) : Prop :=
  ∀ fr σ H, Holds X.K fr ρ m σ H → ∀ Q : Str → Hp → Prop, (∀ out m' H', Kj out m' → Ext (Ms fr m) H (Ms fr m') H' → Holds X.K fr ρ m' σ H' → Q out H') → tJs (es.map (wpE X)) acc σ H Q
theorem wj_nil {Kj : Str → Mem → Prop} {acc : Str} (h : Kj acc m) : WJ X [] ρ m acc Kj := fun fr σ H o Q g => g acc m H h (.refl _ _) o
theorem wj_cons {Kj : Str → Mem → Prop} {acc : Str} (h : WE X e ρ m fun A m1 => ∃ y : Str, A = str y ∧ (acc ++ y).length ≤ sizeLine ∧ WJ X es ρ m1 (acc ++ y) Kj) : WJ X (e :: es) ρ m acc Kj := fun fr σ H o Q g =>
  h.to o fun A m1 v H1 ⟨y, ea, hl, h1⟩ x1 o1 r1 => by
    subst ea
    exact ⟨y, r1, hl, h1 fr σ H1 o1 Q fun out m' H' k x o' => g out m' H' k (x1.trans x) o'⟩
theorem pj_wp : ∀ es : List Expr, PJ X es (es.map (wpE X))
  | [] => .nil
  | _ :: es => .cons wpE_pe (pj_wp es)
theorem we_fstr {v1 v2 : Expr} {rest : List Expr} (h : WJ X (v1 :: v2 :: rest) ρ m Str.empty fun out m' => Kt (str out) m') : WE X (.JoinedStr (v1 :: v2 :: rest) pos) ρ m Kt := fun fr σ H o Q g =>
  le_E (pe_joined (pj_wp _)) (h fr σ H o _ fun out m' H' k x o' => g _ m' _ H' k x o' rfl)
theorem we_fmt (h : WE X e ρ m fun A m1 => (∃ y : Str, A = str y ∧ y.length ≤ sizeLine ∧ Kt (str y) m1) ∨ ∃ i : Int, A = int i ∧ i.natAbs.log2 < 1920 ∧ Kt (str (toString i)) m1) : WE X (.FormattedValue e (-1) none pos) ρ m Kt := fun fr σ H o Q g =>
  le_E (pe_fmt wpE_pe) (h.to o fun A m1 v H1 hh x1 o1 r1 => by
    rcases hh with ⟨y, ea, hl, q⟩ | ⟨i, ea, hl, q⟩
    · subst ea; exact .inl ⟨y, r1, hl, g _ m1 _ H1 q x1 o1 rfl⟩
    · subst ea; exact .inr ⟨i, r1, hl, g _ m1 _ H1 q x1 o1 rfl⟩)
/-! str(x), x an instance -/
theorem call_strOwn {C g : Addr} {fd : FuncData} {ps : List Str} {sp : Sp} {j : Nat} (hl : PySem.W.findIn X.K (.ref C) "__str__" = some (some (.ref g))) (hf : PySem.W.isFn X.K (.ref g) = true) (hb : L2.Binds X.K fd ps []) (F : FnOk X.prog X.w X.K X.mg X.base CX0 j g fd ps sp) (hr : Room (j + 2) X.A) (hu : X.A.units + 64 < cLine) :
    CallR X (.type "str") (fun xs H Q => ∃ a dx fs, xs = [V.ref a] ∧ H a = some (.ins C dx fs) ∧ sp [.ref a] H (fun v H' => ∃ y : Str, v = .str y ∧ Q (.str y) H') E0) := by
  intro pins s σ H xs us Q I r h
  obtain ⟨p, dx, fs, rfl, hp, hs⟩ := h
  obtain ⟨u, rfl, ru⟩ := r.one
  obtain rfl : u = Value.ref p := ru
  obtain ⟨mA, O, _⟩ := ins_get I.hok hp
  obtain ⟨od, J, _⟩ := O.look
  have lenq : ([Value.ref p] ++ []).length = ps.length := (F.len _ _ _ _ hs)
  refine PySem.W.kso_call (by show X.A.units + 1 + 1 < cLine; omega) I.kIn J hl hf (wpAny_call (codeAny_mono (F.run X.A.in1.in1 X.stack s H ⟨[.ref p], []⟩ [.ref p] [.ref p] _ E0 hr.in1.in1 I.env0.in1.in1 (hb s [.ref p] I.kIn lenq) (.cons rfl .nil) hs) fun res s' hq => ?_))
  cases res with
  | error er => exact hq.elim
  | ok fl =>
    cases fl with
    | ret u =>
      obtain ⟨v, H', I3, rv, y, en, q3⟩ := I.after hq
      subst en
      obtain ⟨t, rfl⟩ := rv
      exact ⟨.str y, H', I3, ⟨_, rfl⟩, q3⟩
    | next => exact hq.elim
    | brk => exact hq.elim
    | cont => exact hq.elim
/-! x in t, t a tuple -/
def rInT (K : PySem.W.Frag) : R2 := fun x y H Q => ∃ d ds, Dp K H x d ∧ Dp K H y (.tuple ds) ∧ PyData.plainAll ds = true ∧ d.plain = true ∧ d.depth < 32 ∧ Q (.bl (ds.any fun z => PyData.eqv z d)) H
def rNinT (K : PySem.W.Frag) : R2 := fun x y H Q => ∃ d ds, Dp K H x d ∧ Dp K H y (.tuple ds) ∧ PyData.plainAll ds = true ∧ d.plain = true ∧ d.depth < 32 ∧ Q (.bl (!ds.any fun z => PyData.eqv z d)) H
theorem op_inT (hu : X.A.units + 64 < cLine) : OpR X (compareOp .In) (rInT X.K) := by
  rintro pins s σ H x y v u Q I rx ry ⟨d, ds, hd, he, p1, p2, p3, q⟩
  obtain ⟨as, r1⟩ := Dp.reads I d x v hd rx
  obtain ⟨bs, r2⟩ := Dp.reads I (.tuple ds) y u he ry
  have m := Nat.min_le_right (PyData.depthAll ds) d.depth
  exact SeqAt.in_tuple_data r2 r1 p1 p2 (by omega) ⟨.bl _, H, I, rfl, q⟩
theorem op_ninT (hu : X.A.units + 64 < cLine) : OpR X (compareOp .NotIn) (rNinT X.K) := by
  rintro pins s σ H x y v u Q I rx ry ⟨d, ds, hd, he, p1, p2, p3, q⟩
  obtain ⟨as, r1⟩ := Dp.reads I d x v hd rx
  obtain ⟨bs, r2⟩ := Dp.reads I (.tuple ds) y u he ry
  have m := Nat.min_le_right (PyData.depthAll ds) d.depth
  exact SeqAt.notIn_tuple_data r2 r1 p1 p2 (by omega) ⟨.bl _, H, I, rfl, q⟩
theorem abs_inT : AbsOp K (rInT K) fun A B m Kt => ∃ d ds, IsDat m A d ∧ IsDat m B (.tuple ds) ∧ PyData.plainAll ds = true ∧ d.plain = true ∧ d.depth < 32 ∧ Kt (AL.bool (ds.any fun z => PyData.eqv z d)) m := by
  rintro A B m Kt fr ρ σ H x y Q ⟨d, ds, hA, hB, p1, p2, p3, q⟩ o rx ry g
  exact ⟨d, ds, hA _ _ _ _ o.mem rx, hB _ _ _ _ o.mem ry, p1, p2, p3, g _ m _ H q (.refl _ _) o rfl⟩
theorem abs_ninT : AbsOp K (rNinT K) fun A B m Kt => ∃ d ds, IsDat m A d ∧ IsDat m B (.tuple ds) ∧ PyData.plainAll ds = true ∧ d.plain = true ∧ d.depth < 32 ∧ Kt (AL.bool (!ds.any fun z => PyData.eqv z d)) m := by
  rintro A B m Kt fr ρ σ H x y Q ⟨d, ds, hA, hB, p1, p2, p3, q⟩ o rx ry g
  exact ⟨d, ds, hA _ _ _ _ o.mem rx, hB _ _ _ _ o.mem ry, p1, p2, p3, g _ m _ H q (.refl _ _) o rfl⟩
/-! // and % by a number that is not 0 -/
theorem op_fdivA : OpR X (binaryOp .FloorDiv) (rI (fun _ j => j ≠ 0 ∧ j.natAbs.log2 < 9000) fun i j => .int (i.fdiv j)) := opI fun _ _ _ _ _ _ _ hc q => floordiv_int hc.1 q (.inl (PyProof.noPylong_of_log2 hc.2))
theorem we_fdivA (h : WE X e ρ m fun A m1 => WE X f ρ m1 fun B m2 => ∃ i j, A = int i ∧ B = int j ∧ (j ≠ 0 ∧ j.natAbs.log2 < 9000) ∧ Kt (int (i.fdiv j)) m2) : WE X (.BinOp e .FloorDiv f pos) ρ m Kt := we_bin op_fdivA abs_I h
theorem we_modA (h : WE X e ρ m fun A m1 => WE X f ρ m1 fun B m2 => ∃ i j, A = int i ∧ B = int j ∧ j ≠ 0 ∧ Kt (int (i.fmod j)) m2) : WE X (.BinOp e .Mod f pos) ρ m Kt := we_bin op_modN abs_I h
end
end AL
/-! ENT: iterators that hand out new tuples (enumerate of a tuple, zip of three), from the library's draws to the turns of the hand layer. -/
namespace ENT
open PySem PySem.Spec L2 AL
open PyProof.Rows hiding St
/-- a sequence: t = true a tuple, else a list -/
def SqK (K : PySem.W.Frag) : Bool → Hp → Addr → List V → Prop
  | true => SqT K
  | false => SqL K
def itO : Bool → Addr → Obj
  | true, a => { cls := .type "tuple_iterator", data := .fields #[.ref a, .int 0 0] }
  | false, a => { cls := .type "list_iterator", data := .fields #[.ref a, .int 0 0] }
def ItAt : Bool → Heap → Addr → Addr → Nat → Prop
  | true => Heap.IsTupleIter
  | false => Heap.IsListIter
def SeqK : Bool → Heap → Addr → Array Value → Prop
  | true => Heap.IsTuple
  | false => Heap.IsList
theorem beginsK (t : Bool) (a : Addr) (its : Array Value) : Begins (.ref a) (itO t a) fun h => SeqK t h a its := by
  cases t
  · exact begins_list a its
  · exact begins_tuple a its
theorem drawsK {P : Program} {w : World} {A : Around} (hh : A.handled = none) (t : Bool) (it a : Addr) (hne : a ≠ it) (its : Array Value) :
    Draws P w A it [it, a] its.size (fun i v => its[i]? = some v) fun i h => ItAt t h it a i ∧ SeqK t h a its := by
  cases t
  · exact .list hh it a hne its
  · exact .tuple hh it a hne its
theorem itAt0 {t : Bool} {h : Heap} {a it : Addr} (e : h.get? it = some (itO t a)) : ItAt t h it a 0 := by cases t <;> exact ⟨_, e, rfl, rfl⟩
theorem ItAt.keep {t : Bool} {h h' : Heap} {a it : Addr} {i : Nat} (x : ItAt t h it a i) (k : ∀ o, h.get? it = some o → h'.get? it = some o) : ItAt t h' it a i := by
  cases t
  · exact Heap.IsListIter.at x k
  · exact Heap.IsTupleIter.at x k
theorem ItAt.obj {t : Bool} {h : Heap} {a it : Addr} {i : Nat} (x : ItAt t h it a i) : ∃ o, h.get? it = some o ∧ ∀ v, o.data ≠ .cell v := by
  cases t <;> (obtain ⟨o, ho, _, hd⟩ := x; exact ⟨o, ho, fun v q => by rw [hd] at q; cases q⟩)
theorem SeqK.keep {t : Bool} {h h' : Heap} {a : Addr} {its : Array Value} (x : SeqK t h a its) (k : ∀ b o, h.get? b = some o → h'.get? b = some o) : SeqK t h' a its := (beginsK t a its).keeps h h' x k
theorem sqK {X : Cx} {pins : List (Addr × Obj)} {σ : St} {H : Hp} {s : Shared} {t : Bool} {a : Addr} {xs : List V} (I : Inv X pins σ H s) (h : SqK X.K t H a xs) : ∃ its : List Value, Vals xs its ∧ SeqK t s.heap a its.toArray ∧ xs.length ≤ sizeLine := by
  cases t
  · obtain ⟨its, r, p, hz⟩ := I.list h
    exact ⟨its, r, p.isList, hz⟩
  · exact I.tuple h
/-- the iterator whose i-th item is a new tuple of values told by Y -/
def ItN (D : Hp → Prop) (n : Nat) (Y : Nat → List V → Prop) : It :=
  ⟨fun i H => D H ∧ i < n, fun i H v H' => ∃ T xs, v = .ref T ∧ H T = none ∧ H' = upd H T (.tup xs) ∧ Y i xs, fun i H => D H ∧ i = n⟩
/-- THE BRIDGE: St is what the free objects fp say (F) and what the data say (G, of x, which may be told anew at each turn) -/
theorem turn_new {ι : Type} {P : Program} {w : World} {K : PySem.W.Frag} {elts : List Expr} {kk : Nat} {tp : Pos} {e : Addr} {fp all wr : List Addr} {n : Nat} {D : Hp → Prop} {Y : Nat → List V → Prop} {Pt : ι → Nat → Array Value → Prop} {St : ι → Nat → Heap → Prop} {F : Nat → Heap → Prop} {G : ι → Heap → Prop} {Mid : ι → Nat → Addr → Heap → Prop} {ok : ι → Prop}
    (W : ∀ (x : ι) (A : Around), ok x → A.handled = none → WalksT P w A e all wr n (Pt x) (St x) (Mid x)) (mem : e ∈ fp) (sub : ∀ b ∈ wr, b ∈ fp) (up : ∀ x i h, F i h → G x h → St x i h) (down : ∀ x i h, St x i h → F i h)
    (keep : ∀ i h h', F i h → (∀ b ∈ fp, ∀ o, h.get? b = some o → h'.get? b = some o) → F i h') (obj : ∀ i h, F i h → ∀ b ∈ fp, ∃ o, h.get? b = some o ∧ ∀ v, o.data ≠ .cell v)
    (slf : ∀ (A : Around) (i : Nat) (s : Shared) (Q : Value → Shared → Prop) (E : Value → Shared → Prop), F i s.heap → Q (.ref e) s → wpAny (model P w) A (pyIter (.ref e)) Q E s)
    (data : ∀ (X : Cx) (pins : List (Addr × Obj)) (σ : L2.St) (H : Hp) (s : Shared), X.K = K → Inv X pins σ H s → D H → ∃ x, ok x ∧ G x s.heap ∧ ∀ i vals, i < n → Pt x i vals → ∃ xs, Vals xs vals.toList ∧ Y i xs ∧ xs.length ≤ sizeLine) :
    Turn P w K (.Tuple elts kk tp) (ItN D n Y) fp e F where
  mem := mem
  obj := obj
  keep := keep
  item := by
    intro X hP hw hK hc i pins s σ H E I hf st hg
    subst hP hw
    obtain ⟨hD, hlt⟩ := hg
    have hh : X.A.handled = none := I.ok.hd hc
    obtain ⟨x, hx, hG, conv⟩ := data X pins σ H s hK I hD
    refine (W x X.A hx hh).item i s _ E hlt (up x i _ st hG) fun T vals h' tk pt hT isT mid k1 => ?_
    obtain ⟨xs, rv, hy, hz⟩ := conv i vals hlt pt
    refine ⟨_, rfl, (W x X.A hx hh).go elts kk tp i T { s with heap := h', toks := tk } _ E mid fun h'' st'' k2 => ?_⟩
    have ap := (W x X.A hx hh).apart i T h' mid
    have hT2 : h''.IsTuple T vals := let ⟨o, q, r⟩ := isT; ⟨o, k2 T o ap q, r⟩
    have new : ObjOk X.prog X.w (upd H T (.tup xs)) h'' T (.tup xs) := ⟨hz, vals.toList, rv, by obtain ⟨o, q1, q2, q3, q4⟩ := hT2; exact ⟨o, q1, q2, q3, by simpa using q4⟩⟩
    have I1 : Inv X pins σ (upd H T (.tup xs)) { s with heap := h'', toks := tk } :=
      I.turnedNew (ch := fp) (fun b ob hb q => k2 b ob (fun z => hb (sub b z)) (k1 b ob (fun z => hb (sub b z)) q)) hf hT new
    refine ⟨.ref T, _, I1, rfl, ⟨T, xs, rfl, I.hok.fresh hT, rfl, hy⟩, down x _ _ st'', fun b hb => ?_⟩
    have hlt' : b < s.heap.objs.size := by
      obtain ⟨o, q, _⟩ := obj i _ st b hb
      exact Heap.lt_size q
    rw [upd_ne (Nat.ne_of_lt (Nat.lt_of_lt_of_le hlt' hT))]
    exact (hf b hb).1
  done := by
    intro X hP hw hK hc i pins s σ H E I hf st hg
    subst hP hw
    obtain ⟨hD, rfl⟩ := hg
    obtain ⟨x, hx, hG, _⟩ := data X pins σ H s hK I hD
    refine (W x X.A hx (I.ok.hd hc)).done s _ E (up x _ _ st hG) fun h' tk k => ⟨rfl, ?_⟩
    exact I.turnedL (t' := tk) (ch := fp) (fun b o hb q => k b o (fun z => hb (sub b z)) q) hf
  self := slf
/-! ### enumerate -/
set_option maxHeartbeats 1000000 in
theorem meets_enum1 (l : Addr) (its : Array Value) (c : Obj) (hc : c.cls = .type "tuple") (hd : ∃ n, c.data = .seq its n) :
    Meets (Builtin.«enumerate.__new__» ⟨[.type "enumerate", .ref l], []⟩) (fun _ R s => s.heap.get? l = some c ∧
      R (.ok (.ret (.ref (s.heap.push (itO true l)).objs.size))) { s with heap := (s.heap.push (itO true l)).push { cls := .type "enumerate", data := .fields #[.none, .bool false, .ref s.heap.objs.size, rawInt 0, .none, .none] } }) :=
  .of_wp fun prog w A R s h => by
    obtain ⟨hp, g, d, tk, os⟩ := s
    obtain ⟨hl, h⟩ := h
    obtain ⟨n, hd⟩ := hd
    obtain ⟨c1, c2, c3, c4⟩ := c
    cases hc
    cases hd
    have hsub := sub_enumerate
    have q1 : ∀ {A' : Around} {E : Value → Shared → Prop} {Q : Value → Shared → Prop}, Q (.ref hp.objs.size) ⟨hp.push (itO true l), g, d, tk, os⟩ → wpAny (model prog w) A' (pyIter (.ref l)) Q E ⟨hp, g, d, tk, os⟩ :=
      fun q => (beginsK true l its).iter prog w _ _ ⟨hp, g, d, tk, os⟩ _ ⟨_, hl, rfl, n, rfl⟩ q
    wp_walk using AutoSeq1.wpAny_loadPart' hl
    refine wpAny_stack_any fun st => wpAny_pure ?_
    split
    · rename_i c _ _ _ _ _
      cases (c == Value.type "enumerate") <;>
      · wp_walk using AutoSeq1.wpAny_loadPart' hl, q1
        exact ⟨_, rfl, h⟩
    · wp_walk using AutoSeq1.wpAny_loadPart' hl, q1
      exact ⟨_, rfl, h⟩
section
variable {X : Cx} {K : PySem.W.Frag}
theorem call_enumT {P : Program} {w : World} {A : Around} {E : Value → Shared → Prop} {s : Shared} {l : Addr} {its : Array Value} {Q : Value → Shared → Prop} (hl : s.heap.IsTuple l its)
    (fin : ∀ h', IsEnum h' (s.heap.objs.size + 1) s.heap.objs.size 0 .none → h'.get? s.heap.objs.size = some (itO true l) → (∀ b o, s.heap.get? b = some o → h'.get? b = some o) → Q (.ref (s.heap.objs.size + 1)) { s with heap := h' }) :
    wpAny (model P w) A (call (.type "enumerate") [.ref l]) Q E s := by
  obtain ⟨c, hg, hc, hd⟩ := hl
  have z : (s.heap.push (itO true l)).objs.size = s.heap.objs.size + 1 := Heap.size_push ..
  have two := meets_enum1 l its c hc hd
  refine callType_new PySem.F.called_enumerate (by decide) (PySem.F.typeCall_enumerate_1 _) (PySem.F.newCall_enumerate_1 _) (fun o => PySem.F.args_object_init_2 o _) PySem.F.entry_enumerate_new two ⟨hg, ?_⟩
  have last : ((s.heap.push (itO true l)).push { cls := .type "enumerate", data := .fields #[.none, .bool false, .ref s.heap.objs.size, rawInt 0, .none, .none] }).get? (s.heap.objs.size + 1) = some { cls := .type "enumerate", data := .fields #[.none, .bool false, .ref s.heap.objs.size, rawInt 0, .none, .none] } := by
    rw [← z]; exact Heap.get?_push_size _ rfl
  show _ ∧ _
  rw [z]
  exact ⟨⟨_, last, rfl⟩, fin _ last (Heap.get?_push_of_some _ (Heap.get?_push_size _ rfl)) fun b o e => Heap.get?_push_of_some _ (Heap.get?_push_of_some _ e)⟩
/-- enumerate(t): t's items with their numbers -/
def ItEnum (K : PySem.W.Frag) (a : Addr) (xs : List V) : It := ItN (fun H => SqT K H a xs) xs.length fun i ys => ∃ x, xs[i]? = some x ∧ ys = [.int (i : Nat), x]
theorem turn_enumT {P : Program} {w : World} {elts : List Expr} {kk : Nat} {tp : Pos} {a it e : Addr} {xs : List V} (h1 : e ≠ it) (h2 : a ≠ it) (h3 : e ≠ a) :
    Turn P w K (.Tuple elts kk tp) (ItEnum K a xs) [e, it] e fun i h => (∃ old, IsEnum h e it (0 + (i : Int)) old) ∧ ItAt true h it a i := by
  have ne : e ∉ [it, a] := fun z => by
    rcases List.mem_cons.mp z with z | z
    · exact h1 z
    · exact h3 (List.mem_singleton.mp z)
  refine turn_new (ι := List Value) (ok := fun its => its.length = xs.length) (F := fun i h => (∃ old, IsEnum h e it (0 + (i : Int)) old) ∧ ItAt true h it a i) (G := fun its h => SeqK true h a its.toArray) (St := fun its i h => (∃ old, IsEnum h e it (0 + (i : Int)) old) ∧ (ItAt true h it a i ∧ SeqK true h a its.toArray)) (Pt := fun its i vals => ∃ t x, its.toArray[i]? = some x ∧ vals = #[.int (0 + (i : Int)) t, x]) (fun its A hl hh => by
    have D := drawsK (P := P) (w := w) (A := A.in1) hh true it a h2 its.toArray
    rw [show its.toArray.size = xs.length by simp [hl]] at D
    exact WalksT.enumFrom 0 D e h1 ne (by simp)) (by simp) (fun b hb => hb) (fun its i h x g => ⟨x.1, x.2, g⟩) (fun its i h x => ⟨x.1, x.2.1⟩)
    (fun i h h' x k => ⟨?_, x.2.keep fun o q => k it (by simp) o q⟩) (fun i h x b hb => ?_)
    (fun A i s Q E x q => ?_) (fun X pins σ H s hK I hD => ?_)
  · obtain ⟨⟨old, q⟩, _⟩ := x
    exact ⟨old, k e (by simp) _ q⟩
  · rcases List.mem_cons.mp hb with z | z
    · obtain ⟨⟨old, q⟩, _⟩ := x
      rw [z]; exact ⟨_, q, fun v y => nomatch y⟩
    · rw [List.mem_singleton.mp z]; exact x.2.obj
  · obtain ⟨⟨old, z⟩, _⟩ := x
    exact wpAny_pyIter_enum z q
  · subst hK
    obtain ⟨its, rv, pl, hz⟩ := I.tuple hD
    refine ⟨its, rv.length.symm, pl, fun i vals hlt pt => ?_⟩
    obtain ⟨t, u, hu, ev⟩ := pt
    obtain ⟨y, hy, ry⟩ := rv.get (i := i) (x := xs[i]) (by simp [hlt])
    have eu : y = u := by
      have hu' : its[i]? = some u := by simpa using hu
      rw [hy] at hu'; exact Option.some.inj hu'
    subst eu ev
    exact ⟨[.int (i : Nat), xs[i]], .cons ⟨t, by rw [Int.zero_add]⟩ (.cons ry .nil), ⟨xs[i], by simp [hlt], rfl⟩, by show 2 ≤ sizeLine; decide⟩
def iEnumT (K : PySem.W.Frag) (ta : TA) : TI := fun σ H R => ta σ H fun vs H1 => ∃ a xs, vs = [.ref a] ∧ SqT K H1 a xs ∧ R (ItEnum K a xs) H1
theorem pi_enumT {e : Expr} {ta : TA} {p pos tpos : Pos} {elts : List Expr} {kk : Nat} (hg : Gl X "enumerate") (hm : X.mg "enumerate" = none) (ha : PA X [e] ta) (hs : starEach [e] X.env = [(false, eval e X.env)]) :
    PI X (.Tuple elts kk tpos) (.Call (.Name "enumerate" p) [e] [] pos) (iEnumT X.K ta) := by
  refine ⟨fun pins s σ H R I h => Call_ (ld_blt I hg hm boot_enumerate (callWith_type1 (thn (ha.run pos pins s σ H _ I h) fun us s1 ⟨vs, H1, I1, r1, a, xs, ev, hq, q⟩ => ?_) hs rfl))⟩
  subst ev
  obtain ⟨u, rfl, ru⟩ := r1.one
  cases (show u = Value.ref a from ru)
  obtain ⟨its, rv, pl, hz⟩ := I1.tuple hq
  obtain ⟨oa, goa, _⟩ := id pl
  have lta : a < s1.heap.objs.size := Heap.lt_size goa
  refine call_enumT (its := its.toArray) pl fun h' he hit hk => wpAny_pyIter_enum he ?_
  have I2 : Inv X pins σ H1 { s1 with heap := h' } := I1.kept (t' := s1.toks) hk
  refine ⟨s1.heap.objs.size + 1, [s1.heap.objs.size + 1, s1.heap.objs.size], _, _, H1, rfl, I2,
    turn_enumT (K := X.K) (a := a) (xs := xs) (Nat.succ_ne_self _) (Nat.ne_of_lt lta) (Nat.ne_of_gt (Nat.lt_succ_of_lt lta)), ⟨⟨.none, he⟩, itAt0 hit⟩, fun b hb => ?_, q⟩
  · have hle : s1.heap.objs.size ≤ b := by
      rcases List.mem_cons.mp hb with z | z
      · rw [z]; exact Nat.le_succ _
      · rw [List.mem_singleton.mp z]; exact Nat.le_refl _
    exact I1.fpOk hle (I1.hok.fresh hle)
end
end ENT
namespace AL
open PySem PySem.Spec L2 ENT
open PyProof.Rows hiding St
section
variable {P : Program} {w : World} {K : PySem.W.Frag} {mg : Str → Option Value} {base : Heap} {N : List Str} {sc : Scope} {df : Bool} {k : Nat} {X : Cx} {ρ : Rho} {m : Mem} {pos : Pos} {Ki : List AV → Mem → Prop}
theorem enumT_yld {As : List AV} {xs : List V} {a : Addr} {M0 M : List Addr} {H0 H H' : Hp} {i : Nat} {y : V} (ra : AllV K M0 H0 As xs) (xt : Ext M0 H0 M H) (hM : ∀ b ∈ M, ∃ o, H b = some o) (hi : i < As.length) (hy : (ItEnum K a xs).yld i H y H') :
    (∃ T o, H T = none ∧ H' = upd H T o) ∧ ∀ A, (enumA As)[i]? = some A → A.p K M H' y := by
  obtain ⟨T, ys, rfl, hT, rfl, x, hx, rfl⟩ := hy
  refine ⟨⟨T, _, hT, rfl⟩, ?_⟩
  have ri : AllV K M0 H0 ((List.range As.length).map fun (i : Nat) => int (i : Int)) ((List.range As.length).map fun (i : Nat) => V.int (i : Int)) := by
    generalize List.range As.length = l
    induction l with
    | nil => exact .nil
    | cons z l ih => exact .cons rfl ih
  exact pair_yld ri ra xt hT hM (by simp [hi]) hx
theorem enumA_len {As : List AV} : (enumA As).length = As.length := by unfold enumA; rw [pairA_len, List.length_map, List.length_range]; omega
theorem wi_enumT (a : At P w K mg base N sc df k X) {p tpos : Pos} {c : Expr} {elts : List Expr} {kk : Nat} (hg : sc.names.lookup ("enumerate" : Str) = some .globalImplicit) (hm : mg ("enumerate" : Str) = none) (h : WE X c ρ m fun A m1 => ∃ As, A = tup As ∧ Ki (enumA As) m1)
    (hs : starEach [c] X.env = [(false, eval c X.env)] := by rfl) : WI X (.Tuple elts kk tpos) (.Call (.Name "enumerate" p) [c] [] pos) ρ m Ki := by
  intro fr σ H o R g
  refine le_I (pi_enumT (gl_of a hg) (by rw [a.mt]; exact hm) (pa_cons wpE_pe pa_nil (by rw [hs]; rfl)) hs) ?_
  refine h.to o fun A m1 v H1 ⟨As, ea, q⟩ x1 o1 r1 => ?_
  subst ea
  obtain ⟨p1, xs, rfl, t1, ra⟩ := r1
  have hl : As.length = xs.length := ra.length
  refine ⟨p1, xs, rfl, t1.sq, g _ m1 _ H1 q x1 o1 ⟨fun i M H3 hi xt => ⟨(t1.st xt).sq, ?_⟩, fun M H3 xt => ⟨(t1.st xt).sq, ?_⟩, fun i M H3 y H4 hi xt hM hy => ?_⟩⟩
  · rw [enumA_len, hl] at hi; exact hi
  · rw [enumA_len, hl]
  · rw [enumA_len] at hi
    obtain ⟨h1, h2⟩ := enumT_yld ra xt hM hi hy
    exact ⟨.inr h1, h2⟩
end
end AL
/-! EV: a small language of plain steps, its evaluator. What it computes is shown (EV2 ..) to be what the program does. -/
namespace EV
open PySem PySem.Spec L2 AL
/-- values that nobody changes -/
inductive PV where
  | int (i : Int)
  | bl (b : Bool)
  | non
  | str (s : Str)
  | tup (l : List PV)
  | lst (l : List PV)
  | ins (c : Nat) (l : List PV)
  | fn (n : Nat)
  | tun (l : List PV)
  | dct (ks : List (List Key)) (vs : List PV)
/-- a value; the own list with this number; a list of a caller's, as it stands -/
inductive CV where
  | p (v : PV)
  | r (n : Nat)
  | o (l : List PV)
abbrev Ev := List (Option CV)
abbrev Own := List (List PV)
inductive BO where
  | add | sub | mul | fdiv | mod
inductive CO where
  | lt | le | gt | ge | eq | ne | is | isn | inn | nin
inductive BI where
  | len | abs | int | all | any | tuple | list | gcd
mutual
inductive CE where
  | fail
  | no
  | const (v : PV)
  | var (i : Nat)
  | glob (g : Nat)
  | bin (o : BO) (a b : CE)
  | cmp (o : CO) (a b : CE)
  | and (a b : CE)
  | or (a b : CE)
  | not (a : CE)
  | neg (a : CE)
  | ife (c a b : CE)
  | tup (l : CEs)
  | lst (l : CEs)
  | ix (a i : CE)
  | sl (a lo hi : CE)
  | fld (c k : Nat) (a : CE)
  | call (f : Nat) (l : CEs)
  | make (c : Nat) (l : CEs)
  | blt (b : BI) (l : CEs)
  | isi (t : Nat) (a : CE)
  | lc (js : List Nat) (it : CI) (e : CE)
  | lcf (js : List Nat) (it : CI) (c e : CE)
  | lcz (i j l : Nat) (a b e : CE)
  | rev (a : CE)
  | chn (o o2 : CO) (a b c : CE)
  | xb (k : Nat) (l : CEs)
  | mxd (a d : CE)
  | callv (i : Nat) (l : CEs)
  | cast (a : CE)
  | cnt (a b : CE)
  | sadd (a b : CE)
  | str1 (a : CE)
  | fmt (a : CE)
  | fstr (l : CEs)
  | join (a b : CE)
  | stri (c n : Nat) (a : CE)
  | dcm (js : List Nat) (it : CI) (k v : CE)
  | dix (a i : CE)
  | callk (f : Nat) (ord : List Nat) (l : CEs)
  | lc2 (js1 js2 : List Nat) (it1 it2 : CI) (e : CE)
inductive CEs where
  | nil
  | cons (h : CE) (t : CEs)
inductive CI where
  | ex (a : CE)
  | rng1 (a : CE)
  | rng2 (a b : CE)
  | rngD (a b : CE)
  | zip (a b : CE)
  | enum (a : CE)
  | zip3 (a b c : CE)
end
mutual
inductive CS where
  | fail
  | set (i : Nat) (e : CE)
  | setC (i : Nat) (e : CE)
  | newL (i : Nat) (l : CEs)
  | newC (i : Nat) (e : CE)
  | newX (i : Nat) (e : CE)
  | setT (is : List Nat) (e : CE)
  | par (is : List Nat) (l : CEs)
  | store (x : Nat) (i e : CE)
  | app (x : Nat) (e : CE)
  | ext (x : Nat) (e : CE)
  | pop (y x : Nat) (i : CE)
  | popx (x : Nat)
  | popy (y x : Nat)
  | popT (js : List Nat) (x : Nat)
  | popI (y x : Nat) (c : CE) (i : Nat) (e : CE)
  | set2 (i j : Nat) (e : CE)
  | aug (i : Nat) (e : CE)
  | ex (e : CE)
  | ife (c : CE) (a b : CSs)
  | fors (js : List Nat) (it : CI) (b : CSs)
  | whl (c : CE) (b : CSs)
  | ret (e : CE)
  | retT (l : CEs)
  | pass
  | brk
  | cnt
inductive CSs where
  | nil
  | cons (h : CS) (t : CSs)
  | frz (i : Nat) (t : CSs)
end
/-! ### values -/
def getP : CV → Option PV
  | .p v => some v
  | _ => none
def allP : List CV → Option (List PV)
  | [] => some []
  | .p v :: r => match allP r with
    | some l => some (v :: l)
    | none => none
  | _ :: _ => none
/-- a list's items -/
def asL (own : Own) : CV → Option (List PV)
  | .p (.lst l) => some l
  | .r n => own[n]?
  | .o l => some l
  | _ => none
/-- a list's or a tuple's items -/
def asS (own : Own) : CV → Option (List PV)
  | .p (.lst l) => some l
  | .p (.tup l) => some l
  | .r n => own[n]?
  | .o l => some l
  | _ => none
def truth (own : Own) : CV → Option Bool
  | .p (.bl b) => some b
  | .p (.int i) => some (i != 0)
  | .p .non => some false
  | .p (.str s) => if s.length ≤ 1000 then some ((s.length : Int) != 0) else none
  | .p (.tup l) => some (!l.isEmpty)
  | .p (.lst l) => some (!l.isEmpty)
  | .p (.ins _ _) => none
  | .p (.fn _) => none
  | .p (.tun _) => none
  | .p (.dct _ _) => none
  | .r n => (own[n]?).map fun l => !l.isEmpty
  | .o l => some (!l.isEmpty)
def asI : CV → Option Int
  | .p (.int i) => some i
  | _ => none
mutual
def D : PV → PyData
  | .int i => .int i
  | .bl b => .bool b
  | .non => .none
  | .str s => .str s
  | .tup l => .tuple (Ds l)
  | .lst l => .list (Ds l)
  | .ins _ _ => .none
  | .fn _ => .none
  | .tun l => .tuple (Ds l)
  | .dct _ _ => .none
def Ds : List PV → List PyData
  | [] => []
  | v :: l => D v :: Ds l
end
mutual
/-- data alone: no instance, in it neither -/
def dat : PV → Bool
  | .ins _ _ => false
  | .fn _ => false
  | .dct _ _ => false
  | .tun l => dats l
  | .tup l => dats l
  | .lst l => dats l
  | .int _ => true
  | .bl _ => true
  | .non => true
  | .str _ => true
def dats : List PV → Bool
  | [] => true
  | v :: l => dat v && dats l
end
def okD (v : PV) : Bool := dat v && SeqAt.shaped (D v)
/-- a value as data: lists that may change are read as they stand -/
def asV (own : Own) : CV → Option PV
  | .p v => some v
  | .r n => (own[n]?).map .lst
  | .o l => some (.lst l)
def eqP (a b : PV) : Option Bool := match a, b with
  | .tup [.int p, .int q], .tup [.int r, .int s] => some (decide (p = r) && decide (q = s))
  | .int i, .int j => some (decide (i = j))
  | a, b => if okD a && okD b then some (PyData.eqv (D a) (D b)) else none
def small (l : List PV) : Bool := decide (l.length ≤ 1000)
def wideOk (i j : Int) : Bool := decide (i.natAbs.log2 + j.natAbs.log2 < 1000000)
def repL (l : List PV) (k : Nat) : List PV := (List.replicate k l).flatten
def binop (own : Own) : BO → CV → CV → Option PV
  | .add, .p (.int i), .p (.int j) => some (.int (i + j))
  | .add, .p (.tup l), .p (.tup r) => if decide (l.length + r.length ≤ 1000) then some (.tup (l ++ r)) else none
  | .add, a, b => match asL own a, asL own b with
    | some l, some r => if decide (l.length + r.length ≤ 1000) then some (.lst (l ++ r)) else none
    | _, _ => none
  | .sub, .p (.int i), .p (.int j) => some (.int (i - j))
  | .mul, .p (.int i), .p (.int j) => if wideOk i j then some (.int (i * j)) else none
  | .mul, .p (.tup l), .p (.int k) => if decide (0 ≤ k) && decide (k ≤ 1000) && small l && !l.isEmpty then some (.tup (repL l k.toNat)) else none
  | .mul, a, .p (.int k) => match asL own a with
    | some l => if decide (0 ≤ k) && decide (k ≤ 1000) && decide (l.length * k.toNat ≤ 1000) then some (.lst (repL l k.toNat)) else none
    | none => none
  | .fdiv, .p (.int i), .p (.int j) => if decide (j ≠ 0) && decide (j.natAbs.log2 < 9000) then some (.int (i.fdiv j)) else none
  | .mod, .p (.int i), .p (.int j) => if decide (j ≠ 0) then some (.int (i.fmod j)) else none
  | _, _, _ => none
/-- a tuple's items -/
def asT : CV → Option (List PV)
  | .p (.tup l) => some l
  | _ => none
def okT (v : PV) (l : List PV) : Bool := dat v && dats l && PyData.plainAll (Ds l) && (D v).plain && decide ((D v).depth < 32)
def isSame : PV → PV → Option Bool
  | .bl a, .bl b => some (decide (a = b))
  | .non, .non => some true
  | .tup _, .non => some false
  | .lst _, .non => some false
  | .int _, .non => some false
  | .str _, .non => some false
  | .ins _ _, .non => some false
  | .bl _, .non => some false
  | _, _ => none
def cmpop (own : Own) (o : CO) (a b : CV) : Option Bool := match o with
  | .lt => match a, b with
    | .p (.int i), .p (.int j) => some (decide (i < j))
    | _, _ => none
  | .le => match a, b with
    | .p (.int i), .p (.int j) => some (decide (i ≤ j))
    | _, _ => none
  | .gt => match a, b with
    | .p (.int i), .p (.int j) => some (decide (j < i))
    | _, _ => none
  | .ge => match a, b with
    | .p (.int i), .p (.int j) => some (decide (j ≤ i))
    | _, _ => none
  | .eq => match asV own a, asV own b with
    | some v, some u => eqP v u
    | _, _ => none
  | .ne => match asV own a, asV own b with
    | some v, some u => (eqP v u).map (!·)
    | _, _ => none
  | .is => match a, b with
    | .p v, .p u => isSame v u
    | _, _ => none
  | .isn => match a, b with
    | .p v, .p u => (isSame v u).map (!·)
    | _, _ => none
  | .inn => match asT b with
    | some l => match asV own a with
      | some v => if okT v l then some ((Ds l).any fun z => PyData.eqv z (D v)) else none
      | none => none
    | none => match asV own a, asL own b with
      | some v, some l => if okD v && okD (.lst l) then some ((Ds l).any fun z => PyData.eqv z (D v)) else none
      | _, _ => none
  | .nin => match asT b with
    | some l => match asV own a with
      | some v => if okT v l then some (!(Ds l).any fun z => PyData.eqv z (D v)) else none
      | none => none
    | none => match asV own a, asL own b with
      | some v, some l => if okD v && okD (.lst l) then some (!(Ds l).any fun z => PyData.eqv z (D v)) else none
      | _, _ => none
def boolsOf : List PV → Option (List Bool)
  | [] => some []
  | .bl b :: r => match boolsOf r with
    | some l => some (b :: l)
    | none => none
  | _ :: _ => none
def bltin (own : Own) : BI → List CV → Option PV
  | .len, [a] => (asS own a).map fun l => .int (l.length : Nat)
  | .abs, [.p (.int i)] => some (.int (if i < 0 then -i else i))
  | .int, [.p (.int i)] => some (.int i)
  | .int, [.p (.bl b)] => some (.int (if b then 1 else 0))
  | .all, [a] => match asL own a with
    | some l => (boolsOf l).map fun bs => .bl (bs.all id)
    | none => none
  | .any, [a] => match asL own a with
    | some l => (boolsOf l).map fun bs => .bl (bs.any id)
    | none => none
  | .tuple, [.p (.tup l)] => some (.tup l)
  | .tuple, [a] => (asL own a).map .tun
  | .list, [a] => (asS own a).map .lst
  | .gcd, [.p (.int i), .p (.int j)] => some (.int ((Nat.gcd i.natAbs j.natAbs : Nat) : Int))
  | _, _ => none
/-- the types of values; t: int, bool, tuple, list, str, (list, tuple), Bend .. -/
def isType (t : Nat) : PV → Option Bool
  | .int _ => if t ≤ 5 then some (t == 0) else none
  | .bl _ => if t ≤ 5 then some (t == 0 || t == 1) else none
  | .tup _ => if t ≤ 5 then some (t == 2 || t == 5) else none
  | .lst _ => if t ≤ 5 then some (t == 3 || t == 5) else none
  | .str _ => if t ≤ 5 then some (t == 4) else none
  | .non => if t ≤ 5 then some false else none
  | .ins _ _ => none
  | .fn _ => none
  | .tun _ => none
  | .dct _ _ => none
def setAllE (ρ : Ev) : List Nat → List PV → Option Ev
  | [], [] => some ρ
  | j :: js, v :: vs => setAllE (ρ.set j (some (.p v))) js vs
  | _, _ => none
/-- targets: one name takes the value, several its items -/
def bindE (ρ : Ev) (js : List Nat) (v : PV) : Option Ev := match js with
  | [j] => some (ρ.set j (some (.p v)))
  | js => match v with
    | .tup vs => setAllE ρ js vs
    | _ => none
def wipeE (ρ : Ev) : List Nat → Ev
  | [] => ρ
  | v :: vs => (wipeE ρ vs).set v none
def rangeP (lo : Int) (n : Nat) : List PV := (List.range n).map fun (i : Nat) => .int (lo + (i : Int))
/-- downwards -/
def downP (lo : Int) (n : Nat) : List PV := (List.range n).map fun (i : Nat) => .int (lo + (i : Int) * -1)
def pairP : List PV → List PV → List PV
  | a :: as, b :: bs => .tup [a, b] :: pairP as bs
  | _, _ => []
def tripP : List PV → List PV → List PV → List PV
  | a :: as, b :: bs, c :: cs => .tup [a, b, c] :: tripP as bs cs
  | _, _, _ => []
def enumP (i : Nat) : List PV → List PV
  | [] => []
  | a :: as => .tup [.int (i : Nat), a] :: enumP (i + 1) as
/-- a comprehension: the items one behind the other; none in the middle: stop; the inner none: left out -/
def lcGo (f : PV → Option (Option PV)) : List PV → Option (List PV)
  | [] => some []
  | v :: r => match f v with
    | none => none
    | some none => lcGo f r
    | some (some u) => match lcGo f r with
      | some l => some (u :: l)
      | none => none
def lcI (js : List Nat) (ρ : Ev) (fe : Ev → Option CV) (v : PV) : Option (Option PV) := match bindE (wipeE ρ js) js v with
  | none => none
  | some ρ' => match fe ρ' with
    | some (.p u) => some (some u)
    | _ => none
def lcIf (w : Own) (js : List Nat) (ρ : Ev) (fc fe : Ev → Option CV) (v : PV) : Option (Option PV) := match bindE (wipeE ρ js) js v with
  | none => none
  | some ρ' => match fc ρ' with
    | none => none
    | some x => match truth w x with
      | none => none
      | some false => some none
      | some true => match fe ρ' with
        | some (.p u) => some (some u)
        | _ => none
/-- for i, (j, l) in enumerate(zip(..)) -/
def lcZ (i j l : Nat) (ρ : Ev) (fe : Ev → Option CV) : PV → Option (Option PV)
  | .tup [k, .tup [x, y]] => match fe ((((wipeE ρ [i, j, l]).set i (some (.p k))).set j (some (.p x))).set l (some (.p y))) with
    | some (.p u) => some (some u)
    | _ => none
  | _ => none
def seqC : CV → Option (List PV)
  | .p (.lst l) => some l
  | .p (.tup l) => some l
  | _ => none
def intsOf : List PV → Option (List Int)
  | [] => some []
  | .int i :: r => match intsOf r with
    | some l => some (i :: l)
    | none => none
  | _ :: _ => none
def maxI (a : Int) : List Int → Int
  | [] => a
  | b :: l => maxI (if b > a then b else a) l
/-- further built-ins: max of a list, max of two, comb, lcm -/
def xblt (own : Own) : Nat → List CV → Option PV
  | 0, [a] => match asL own a with
    | some l => match intsOf l with
      | some (i :: r) => some (.int (maxI i r))
      | _ => none
    | none => none
  | 1, [.p (.int i), .p (.int j)] => some (.int (if j > i then j else i))
  | 2, [.p (.int i), .p (.int j)] => if decide (0 ≤ i) && decide (0 ≤ j) && decide (i ≤ 18000) then some (.int (PySem.W.mcComb i j)) else none
  | 3, [.p (.int i), .p (.int j)] => if decide (i.natAbs < 2 ^ 64) && decide (j.natAbs < 2 ^ 64) && decide ((((Nat.lcm 1 i.natAbs).lcm j.natAbs : Nat) : Int).natAbs.log2 < 1000) then some (.int (((Nat.lcm 1 i.natAbs).lcm j.natAbs : Nat) : Int)) else none
  | _, _ => none
def isOrd : CO → Bool
  | .lt => true
  | .le => true
  | .gt => true
  | .ge => true
  | _ => false
def lcFin (items : List PV) (f : PV → Option (Option PV)) : Option CV := if small items then match lcGo f items with
  | some l => some (.p (.lst l))
  | none => none
  else none
def inRange (i : Int) : Bool := decide (-(2 ^ 62) ≤ i) && decide (i < 2 ^ 62)
def atP (l : List PV) (i : Int) : Option PV := L2.atI l i
def cutP (l : List PV) (lo hi : Option Int) : List PV := (l.drop (HT.sIx l.length 0 lo)).take (HT.sIx l.length l.length hi - HT.sIx l.length 0 lo)
/-- a dict's key: a tuple of numbers and texts -/
def key1 : PV → Option Key
  | .int i => some (.inl i)
  | .str x => some (.inr x)
  | _ => none
def keysL : List PV → Option (List Key)
  | [] => some []
  | v :: r => match key1 v, keysL r with
    | some k, some l => some (k :: l)
    | _, _ => none
def keyP : PV → Option (List Key)
  | .tup l => keysL l
  | _ => none
def strsOf : List PV → Option (List Str)
  | [] => some []
  | .str x :: r => match strsOf r with
    | some l => some (x :: l)
    | none => none
  | _ :: _ => none
def big : Nat := 100000
def catS : Str → List Str → Option Str
  | acc, [] => some acc
  | acc, y :: r => if (acc ++ y).length ≤ big then catS (acc ++ y) r else none
def dcGo (f : PV → Option (List Key × PV)) : List PV → Option (List (List Key × PV))
  | [] => some []
  | v :: r => match f v with
    | none => none
    | some p => match dcGo f r with
      | some l => some (p :: l)
      | none => none
def dcI (js : List Nat) (ρ : Ev) (fk fv : Ev → Option CV) (v : PV) : Option (List Key × PV) := match bindE (wipeE ρ js) js v with
  | none => none
  | some ρ' => match fk ρ' with
    | some (.p k) => match keyP k with
      | none => none
      | some ks => match fv ρ' with
        | some (.p u) => some (ks, u)
        | _ => none
    | _ => none
def dcFin (items : List PV) (f : PV → Option (List Key × PV)) : Option CV := if small items then match dcGo f items with
  | some l => if (l.map (·.1)).Nodup then some (.p (.dct (l.map (·.1)) (l.map (·.2)))) else none
  | none => none
  else none
/-- two fors in one comprehension -/
def lc2Go (f : PV → Option (List PV)) : List PV → Option (List PV)
  | [] => some []
  | v :: r => match f v with
    | none => none
    | some l => match lc2Go f r with
      | none => none
      | some t => some (l ++ t)
def lc2I (js1 js2 : List Nat) (ρ : Ev) (fi : Ev → Option (List PV)) (fe : Ev → Option CV) (v : PV) : Option (List PV) := match bindE (wipeE ρ (js1 ++ js2)) js1 v with
  | none => none
  | some ρ1 => match fi ρ1 with
    | none => none
    | some l => if small l then lcGo (lcI js2 ρ1 fe) l else none
def lc2Fin (items : List PV) (f : PV → Option (List PV)) : Option CV := if small items then match lc2Go f items with
  | some l => some (.p (.lst l))
  | none => none
  else none
def asO0 (w : Own) (vs : List CV) : List CV := vs.map fun v => match v with
  | .r n => .o ((w[n]?).getD [])
  | v => v
def permL0 {α : Type} (d : α) (ord : List Nat) (l : List α) : List α := ord.map fun i => l.getD i d
structure Fns where
  call : Nat → List CV → Option PV
  make : Nat → List PV → Option (List PV)
  glob : List PV
def optI (e : CE) (v : Option CV) : Option (Option Int) := match e with
  | .no => some none
  | _ => match v with
    | some (.p (.int i)) => some (some i)
    | _ => none
mutual
def evE (T : Fns) : CE → Ev → Own → Option CV
  | .fail, _, _ => none
  | .no, _, _ => none
  | .const v, _, _ => some (.p v)
  | .var i, ρ, _ => match ρ[i]? with
    | some (some v) => some v
    | _ => none
  | .glob n, _, _ => match T.glob[n]? with
    | some v => some (.p v)
    | none => none
  | .bin o a b, ρ, w => match evE T a ρ w with
    | none => none
    | some x => match evE T b ρ w with
      | none => none
      | some y => match binop w o x y with
        | some v => some (.p v)
        | none => none
  | .cmp o a b, ρ, w => match evE T a ρ w with
    | none => none
    | some x => match evE T b ρ w with
      | none => none
      | some y => match cmpop w o x y with
        | some v => some (.p (.bl v))
        | none => none
  | .and a b, ρ, w => match evE T a ρ w with
    | none => none
    | some x => match truth w x with
      | none => none
      | some true => evE T b ρ w
      | some false => some x
  | .or a b, ρ, w => match evE T a ρ w with
    | none => none
    | some x => match truth w x with
      | none => none
      | some true => some x
      | some false => evE T b ρ w
  | .not a, ρ, w => match evE T a ρ w with
    | none => none
    | some x => match truth w x with
      | none => none
      | some b => some (.p (.bl (!b)))
  | .neg a, ρ, w => match evE T a ρ w with
    | some (.p (.int i)) => some (.p (.int (-i)))
    | _ => none
  | .ife c a b, ρ, w => match evE T c ρ w with
    | none => none
    | some x => match truth w x with
      | none => none
      | some true => evE T a ρ w
      | some false => evE T b ρ w
  | .tup l, ρ, w => match evL T l ρ w with
    | none => none
    | some vs => match allP vs with
      | none => none
      | some ps => if small ps then some (.p (.tup ps)) else none
  | .lst l, ρ, w => match evL T l ρ w with
    | none => none
    | some vs => match allP vs with
      | none => none
      | some ps => if small ps then some (.p (.lst ps)) else none
  | .ix a i, ρ, w => match evE T a ρ w with
    | none => none
    | some x => match evE T i ρ w with
      | some (.p (.int n)) => match asS w x with
        | none => none
        | some l => match atP l n with
          | some v => some (.p v)
          | none => none
      | _ => none
  | .sl a lo hi, ρ, w => match evE T a ρ w with
    | none => none
    | some x => match optI lo (evE T lo ρ w) with
      | none => none
      | some l => match optI hi (evE T hi ρ w) with
        | none => none
        | some h => match x with
          | .p (.tup ps) => some (.p (.tup (cutP ps l h)))
          | x => match asL w x with
            | some ps => some (.p (.lst (cutP ps l h)))
            | none => none
  | .fld c k a, ρ, w => match evE T a ρ w with
    | some (.p (.ins c' l)) => if c' == c then (match l[k]? with
      | some v => some (.p v)
      | none => none) else none
    | _ => none
  | .call f l, ρ, w => match evL T l ρ w with
    | none => none
    | some vs => match T.call f (vs.map fun v => match v with
      | .r n => .o ((w[n]?).getD [])
      | v => v) with
      | some v => some (.p v)
      | none => none
  | .cast a, ρ, w => match evE T a ρ w with
    | some (.p (.tun l)) => some (.p (.tup l))
    | v => v
  | .cnt a b, ρ, w => match evE T a ρ w with
    | some (.p (.tun l)) => match evE T b ρ w with
      | some (.p v) => if dats l && dat v && PyData.plainAll (Ds l) && (D v).plain && decide ((D v).depth < 32) then some (.p (.int (((Ds l).countP fun z => PyData.eqv z (D v) : Nat) : Int))) else none
      | _ => none
    | _ => none
  | .callv i l, ρ, w => match ρ[i]? with
    | some (some (.p (.fn f))) => match evL T l ρ w with
      | none => none
      | some vs => match T.call f (vs.map fun v => match v with
        | .r n => .o ((w[n]?).getD [])
        | v => v) with
        | some v => some (.p v)
        | none => none
    | _ => none
  | .make c l, ρ, w => match evL T l ρ w with
    | none => none
    | some vs => match allP vs with
      | none => none
      | some ps => match T.make c ps with
        | some fs => some (.p (.ins c fs))
        | none => none
  | .blt b l, ρ, w => match evL T l ρ w with
    | none => none
    | some vs => match bltin w b vs with
      | some v => some (.p v)
      | none => none
  | .isi t a, ρ, w => match evE T a ρ w with
    | some (.p v) => match isType t v with
      | some b => some (.p (.bl b))
      | none => none
    | _ => none
  | .lc js it e, ρ, w => match evI T it ρ w with
    | none => none
    | some items => lcFin items (lcI js ρ fun ρ' => evE T e ρ' w)
  | .lcf js it c e, ρ, w => match evI T it ρ w with
    | none => none
    | some items => lcFin items (lcIf w js ρ (fun ρ' => evE T c ρ' w) fun ρ' => evE T e ρ' w)
  | .lcz i j l a b e, ρ, w => match evE T a ρ w with
    | none => none
    | some x => match evE T b ρ w with
      | none => none
      | some y => match seqC x with
        | none => none
        | some xs => match seqC y with
          | none => none
          | some ys => lcFin (enumP 0 (pairP xs ys)) (lcZ i j l ρ fun ρ' => evE T e ρ' w)
  | .rev a, ρ, w => match evE T a ρ w with
    | none => none
    | some (.p (.tup l)) => some (.p (.tup l.reverse))
    | some x => match asL w x with
      | none => none
      | some l => some (.p (.lst l.reverse))
  | .chn o o2 a b c, ρ, w => match evE T a ρ w with
    | none => none
    | some x => match evE T b ρ w with
      | none => none
      | some y => match cmpop w o x y with
        | none => none
        | some false => some (.p (.bl false))
        | some true => match evE T c ρ w with
          | none => none
          | some z => match cmpop w o2 y z with
            | none => none
            | some r => some (.p (.bl r))
  | .xb k l, ρ, w => match evL T l ρ w with
    | none => none
    | some vs => match xblt w k vs with
      | some v => some (.p v)
      | none => none
  | .mxd a d, ρ, w => match evE T a ρ w with
    | none => none
    | some x => match evE T d ρ w with
      | some (.p (.int z)) => match asL w x with
        | none => none
        | some l => match intsOf l with
          | some [] => some (.p (.int z))
          | some (i :: r) => some (.p (.int (maxI i r)))
          | none => none
      | _ => none
  | .sadd a b, ρ, w => match evE T a ρ w with
    | some (.p (.str x)) => match evE T b ρ w with
      | some (.p (.str y)) => if x.length + y.length ≤ big then some (.p (.str (x ++ y))) else none
      | _ => none
    | _ => none
  | .str1 a, ρ, w => match evE T a ρ w with
    | some (.p (.int i)) => if i.natAbs.log2 < 1900 then some (.p (.str (toString i))) else none
    | _ => none
  | .fmt a, ρ, w => match evE T a ρ w with
    | some (.p (.int i)) => if i.natAbs.log2 < 1900 then some (.p (.str (toString i))) else none
    | some (.p (.str x)) => if x.length ≤ big then some (.p (.str x)) else none
    | _ => none
  | .fstr l, ρ, w => match evL T l ρ w with
    | none => none
    | some vs => match allP vs with
      | none => none
      | some ps => match strsOf ps with
        | none => none
        | some ys => match catS Str.empty ys with
          | some y => some (.p (.str y))
          | none => none
  | .join a b, ρ, w => match evE T a ρ w with
    | some (.p (.str x)) => match evE T b ρ w with
      | none => none
      | some y => match asS w y with
        | none => none
        | some l => match strsOf l with
          | none => none
          | some ys => if (ys.map (·.length)).sum + ys.length * x.length ≤ big then some (.p (.str (Txt.join x ys))) else none
    | _ => none
  | .stri c n a, ρ, w => match evE T a ρ w with
    | some (.p (.ins c' l)) => if c' == c then (match T.call n [.p (.ins c' l)] with
      | some (.str x) => some (.p (.str x))
      | _ => none) else none
    | _ => none
  | .dcm js it k v, ρ, w => match evI T it ρ w with
    | none => none
    | some items => dcFin items (dcI js ρ (fun ρ' => evE T k ρ' w) fun ρ' => evE T v ρ' w)
  | .callk f ord l, ρ, w => match evL T l ρ w with
    | none => none
    | some vs => if (ord.all fun i => decide (i < vs.length)) && decide (vs.length = ord.length) then (match T.call f (asO0 w (permL0 (.p .non) ord vs)) with
      | some v => some (.p v)
      | none => none) else none
  | .lc2 js1 js2 it1 it2 e, ρ, w => match evI T it1 ρ w with
    | none => none
    | some items => lc2Fin items (lc2I js1 js2 ρ (fun ρ' => evI T it2 ρ' w) fun ρ' => evE T e ρ' w)
  | .dix a i, ρ, w => match evE T a ρ w with
    | some (.p (.dct ks vs)) => match evE T i ρ w with
      | some (.p k) => match keyP k with
        | none => none
        | some kk => match lookK kk (ks.zip vs) with
          | some v => some (.p v)
          | none => none
      | _ => none
    | _ => none
def evL (T : Fns) : CEs → Ev → Own → Option (List CV)
  | .nil, _, _ => some []
  | .cons h t, ρ, w => match evE T h ρ w with
    | none => none
    | some v => match evL T t ρ w with
      | none => none
      | some vs => some (v :: vs)
def evI (T : Fns) : CI → Ev → Own → Option (List PV)
  | .ex a, ρ, w => match evE T a ρ w with
    | none => none
    | some x => asS w x
  | .rng1 a, ρ, w => match evE T a ρ w with
    | some (.p (.int j)) => if inRange j then some (rangeP 0 j.toNat) else none
    | _ => none
  | .rng2 a b, ρ, w => match evE T a ρ w with
    | some (.p (.int i)) => match evE T b ρ w with
      | some (.p (.int j)) => if inRange i && inRange j then some (rangeP i (j - i).toNat) else none
      | _ => none
    | _ => none
  | .rngD a b, ρ, w => match evE T a ρ w with
    | some (.p (.int i)) => match evE T b ρ w with
      | some (.p (.int j)) => if inRange i && inRange j then some (downP i (i - j).toNat) else none
      | _ => none
    | _ => none
  | .zip a b, ρ, w => match evE T a ρ w with
    | none => none
    | some x => match evE T b ρ w with
      | none => none
      | some y => match x, y with
        | .p (.lst l), .p (.lst r) => some (pairP l r)
        | .p (.tup l), .p (.tup r) => some (pairP l r)
        | .p (.lst l), .p (.tup r) => some (pairP l r)
        | _, _ => none
  | .zip3 a b c, ρ, w => match evE T a ρ w with
    | some (.p (.lst x)) => match evE T b ρ w with
      | some (.p (.lst y)) => match evE T c ρ w with
        | some (.p (.lst z)) => some (tripP x y z)
        | _ => none
      | _ => none
    | _ => none
  | .enum a, ρ, w => match evE T a ρ w with
    | none => none
    | some x => match x with
      | .p (.tup l) => some (enumP 0 l)
      | x => match asL w x with
        | some l => some (enumP 0 l)
        | none => none
end
/-- what a loop walks over: nothing that may change -/
def evJ (T : Fns) (it : CI) (ρ : Ev) (w : Own) : Option (List PV) := match it with
  | .ex a => match evE T a ρ w with
    | some (.p (.lst l)) => some l
    | some (.p (.tup l)) => some l
    | _ => none
  | .enum a => match evE T a ρ w with
    | some (.p (.lst l)) => some (enumP 0 l)
    | some (.p (.tup l)) => some (enumP 0 l)
    | _ => none
  | it => evI T it ρ w
inductive Out where
  | nx (ρ : Ev) (w : Own)
  | rt (v : PV)
  | bk (ρ : Ev) (w : Own)
  | ct (ρ : Ev) (w : Own)
def whileN (c : Ev → Own → Option Bool) (b : Ev → Own → Option Out) : Nat → Ev → Own → Option Out
  | 0, _, _ => none
  | n + 1, ρ, w => match c ρ w with
    | none => none
    | some false => some (.nx ρ w)
    | some true => match b ρ w with
      | none => none
      | some (.nx ρ' w') => whileN c b n ρ' w'
      | some (.ct ρ' w') => whileN c b n ρ' w'
      | some (.bk ρ' w') => some (.nx ρ' w')
      | some (.rt v) => some (.rt v)
def forL (js : List Nat) (b : Ev → Own → Option Out) : List PV → Ev → Own → Option Out
  | [], ρ, w => some (.nx ρ w)
  | v :: r, ρ, w => match bindE ρ js v with
    | none => none
    | some ρ1 => match b ρ1 w with
      | none => none
      | some (.nx ρ' w') => forL js b r ρ' w'
      | some (.ct ρ' w') => forL js b r ρ' w'
      | some (.bk ρ' w') => some (.nx ρ' w')
      | some (.rt v) => some (.rt v)
def freeze (w : Own) : CV → Option PV
  | .p v => some v
  | .r n => (w[n]?).map .lst
  | .o _ => none
def freezes (w : Own) : List CV → Option (List PV)
  | [] => some []
  | v :: r => match freeze w v, freezes w r with
    | some u, some us => some (u :: us)
    | _, _ => none
def refAt (ρ : Ev) (x : Nat) : Option Nat := match ρ[x]? with
  | some (some (.r n)) => some n
  | _ => none
def isRef (n : Nat) : Option CV → Bool
  | some (.r k) => k == n
  | _ => false
def shiftS (n : Nat) : Option CV → Option CV
  | some (.r k) => if n < k then some (.r (k - 1)) else some (.r k)
  | s => s
/-- a list of one's own that is changed no more -/
def frzAt (ρ : Ev) (w : Own) (i : Nat) : Option (Ev × Own) := match refAt ρ i with
  | none => none
  | some n => match w[n]? with
    | none => none
    | some l => if (ρ.set i none).all fun s => !isRef n s then some (((ρ.set i none).map (shiftS n)).set i (some (.p (.lst l))), w.eraseIdx n) else none
mutual
def evS (T : Fns) (F : Nat) : CS → Ev → Own → Option Out
  | .fail, _, _ => none
  | .set i e, ρ, w => match evE T e ρ w with
    | some v => some (.nx (ρ.set i (some v)) w)
    | none => none
  | .setC i e, ρ, w => match evE T e ρ w with
    | some v => some (.nx (ρ.set i (some v)) w)
    | none => none
  | .newL i l, ρ, w => match evE T (.lst l) ρ w with
    | some (.p (.lst ps)) => some (.nx (ρ.set i (some (.r w.length))) (w ++ [ps]))
    | _ => none
  | .newC i e, ρ, w => match evE T e ρ w with
    | some (.p (.lst ps)) => some (.nx (ρ.set i (some (.r w.length))) (w ++ [ps]))
    | _ => none
  | .newX i e, ρ, w => match evE T e ρ w with
    | some (.p (.lst ps)) => some (.nx (ρ.set i (some (.r w.length))) (w ++ [ps]))
    | _ => none
  | .setT is e, ρ, w => match evE T e ρ w with
    | some (.p (.tup ps)) => match setAllE ρ is ps with
      | some ρ' => some (.nx ρ' w)
      | none => none
    | _ => none
  | .par is l, ρ, w => match evL T l ρ w with
    | none => none
    | some vs => match allP vs with
      | none => none
      | some ps => match setAllE ρ is ps with
        | some ρ' => some (.nx ρ' w)
        | none => none
  | .store x i e, ρ, w => match evE T e ρ w with
    | some (.p v) => match refAt ρ x with
      | none => none
      | some n => match evE T i ρ w with
        | some (.p (.int k)) => match w[n]? with
          | none => none
          | some l => match ixN l.length k with
            | none => none
            | some j => some (.nx ρ (w.set n (l.set j v)))
        | _ => none
    | _ => none
  | .app x e, ρ, w => match refAt ρ x with
    | none => none
    | some n => match evE T e ρ w with
      | some (.p v) => match w[n]? with
        | none => none
        | some l => if decide (l.length < 1000) then some (.nx ρ (w.set n (l ++ [v]))) else none
      | _ => none
  | .ext x e, ρ, w => match refAt ρ x with
    | none => none
    | some n => match evE T e ρ w with
      | none => none
      | some (.p (.tup r)) => match w[n]? with
        | some l => if decide (l.length + r.length ≤ 1000) then some (.nx ρ (w.set n (l ++ r))) else none
        | none => none
      | some y => match asL w y, w[n]? with
        | some r, some l => if decide (l.length + r.length ≤ 1000) then some (.nx ρ (w.set n (l ++ r))) else none
        | _, _ => none
  | .pop y x i, ρ, w => match refAt ρ x with
    | none => none
    | some n => match evE T i ρ w with
      | some (.p (.int k)) => match w[n]? with
        | none => none
        | some l => match ixN l.length k with
          | none => none
          | some j => match l[j]? with
            | none => none
            | some v => if small l then some (.nx (ρ.set y (some (.p v))) (w.set n (l.eraseIdx j))) else none
      | _ => none
  | .popx x, ρ, w => match refAt ρ x with
    | none => none
    | some n => match w[n]? with
      | none => none
      | some l => match l[l.length - 1]? with
        | none => none
        | some _ => some (.nx ρ (w.set n l.dropLast))
  | .popy y x, ρ, w => match refAt ρ x with
    | none => none
    | some n => match w[n]? with
      | none => none
      | some l => match l[l.length - 1]? with
        | none => none
        | some v => some (.nx (ρ.set y (some (.p v))) (w.set n l.dropLast))
  | .popT js x, ρ, w => match refAt ρ x with
    | none => none
    | some n => match w[n]? with
      | none => none
      | some l => match l[l.length - 1]? with
        | some (.tup vs) => match setAllE ρ js vs with
          | some ρ' => some (.nx ρ' (w.set n l.dropLast))
          | none => none
        | _ => none
  | .popI y x c i e, ρ, w => match evE T c ρ w with
    | none => none
    | some b => match truth w b with
      | none => none
      | some false => match evE T e ρ w with
        | some v => some (.nx (ρ.set y (some v)) w)
        | none => none
      | some true => match refAt ρ x with
        | none => none
        | some n => match w[n]? with
          | none => none
          | some l => match l[l.length - 1]? with
            | some (.tup vs) => match atP vs (i : Nat) with
              | some v => some (.nx (ρ.set y (some (.p v))) (w.set n l.dropLast))
              | none => none
            | _ => none
  | .set2 i j e, ρ, w => match evE T e ρ w with
    | some v => some (.nx ((ρ.set i (some v)).set j (some v)) w)
    | none => none
  | .aug i e, ρ, w => match ρ[i]? with
    | some (some (.p (.int n))) => match evE T e ρ w with
      | some (.p (.int m)) => some (.nx (ρ.set i (some (.p (.int (n + m))))) w)
      | _ => none
    | _ => none
  | .ex e, ρ, w => match evE T e ρ w with
    | some _ => some (.nx ρ w)
    | none => none
  | .ife c a b, ρ, w => match evE T c ρ w with
    | none => none
    | some x => match truth w x with
      | none => none
      | some true => evSs T F a ρ w
      | some false => evSs T F b ρ w
  | .fors js it b, ρ, w => match evJ T it ρ w with
    | none => none
    | some items => forL js (fun ρ w => evSs T F b ρ w) items ρ w
  | .whl c b, ρ, w => whileN (fun ρ w => match evE T c ρ w with
      | none => none
      | some x => truth w x) (fun ρ w => evSs T F b ρ w) F ρ w
  | .ret e, ρ, w => match evE T e ρ w with
    | none => none
    | some v => (freeze w v).map .rt
  | .retT l, ρ, w => match evL T l ρ w with
    | none => none
    | some vs => match freezes w vs with
      | some ps => if small ps then some (.rt (.tup ps)) else none
      | none => none
  | .pass, ρ, w => some (.nx ρ w)
  | .brk, ρ, w => some (.bk ρ w)
  | .cnt, ρ, w => some (.ct ρ w)
def evSs (T : Fns) (F : Nat) : CSs → Ev → Own → Option Out
  | .nil, ρ, w => some (.nx ρ w)
  | .cons h t, ρ, w => match evS T F h ρ w with
    | none => none
    | some (.nx ρ' w') => evSs T F t ρ' w'
    | some o => some o
  | .frz i t, ρ, w => match refAt ρ i with
    | none => evSs T F t ρ w
    | some _ => match frzAt ρ w i with
      | none => none
      | some (ρ', w') => evSs T F t ρ' w'
end
/-- a def: parameters, names, body -/
structure Fn where
  ps : Nat
  ns : Nat
  body : CSs
def runFn (T : Fns) (F : Nat) (f : Fn) (vs : List CV) : Option PV :=
  if vs.length == f.ps then match evSs T F f.body (vs.map some ++ List.replicate (f.ns - vs.length) none) [] with
    | some (.rt v) => some v
    | some (.nx _ _) => some .non
    | _ => none
  else none
inductive Def where
  | nat (g : List CV → Option PV)
  | fn (f : Fn)
def callN (tab : List Def) (make : Nat → List PV → Option (List PV)) (glob : List PV) (F : Nat) : Nat → Nat → List CV → Option PV
  | 0, _, _ => none
  | d + 1, f, vs => match tab[f]? with
    | none => none
    | some (.nat g) => g vs
    | some (.fn b) => runFn ⟨callN tab make glob F d, make, glob⟩ F b vs
end EV
namespace EV
open PySem PySem.Spec L2 AL
open PyProof.Rows hiding St
/-- the classes: where they stand, what their attributes are called -/
structure Cls where
  at_ : Nat → Addr
  fl : Nat → List Str
  fa : Nat → Addr
  P : Program
  w : World
mutual
def absP (Z : Cls) : PV → AV
  | .int i => AL.int i
  | .bl b => AL.bool b
  | .non => AL.non
  | .str s => AL.str s
  | .tup l => AL.tup (absPs Z l)
  | .lst l => AL.lst (absPs Z l)
  | .ins c l => AL.ins (Z.at_ c) ((Z.fl c).zip (absPs Z l))
  | .fn n => AL.val (.ref (Z.fa n))
  | .tun l => AL.tun (absPs Z l)
  | .dct ks vs => AL.dct Z.P Z.w (ks.zip (absPs Z vs))
def absPs (Z : Cls) : List PV → List AV
  | [] => []
  | v :: l => absP Z v :: absPs Z l
end
theorem absPs_map (Z : Cls) : ∀ l : List PV, absPs Z l = l.map (absP Z)
  | [] => by simp [absPs]
  | v :: l => by rw [absPs, absPs_map Z l]; rfl
theorem absPs_len {Z : Cls} {l : List PV} : (absPs Z l).length = l.length := by rw [absPs_map, List.length_map]
def memW (Z : Cls) : List Addr → Own → Mem
  | q :: qs, l :: w => (q, .l (absPs Z l)) :: memW Z qs w
  | _, _ => []
inductive RepC (Z : Cls) (mo : Mem) (qs : List Addr) : CV → AV → Prop
  | p (v : PV) : RepC Z mo qs (.p v) (absP Z v)
  | r (n : Nat) (q : Addr) (h : qs[n]? = some q) : RepC Z mo qs (.r n) (val (.ref q))
  | o (l : List PV) (q : Addr) (h : (q, Cell.l (absPs Z l)) ∈ mo) : RepC Z mo qs (.o l) (val (.ref q))
def RepS (Z : Cls) (mo : Mem) (qs : List Addr) : Option CV → Option AV → Prop
  | none, _ => True
  | some c, some A => RepC Z mo qs c A
  | some _, none => False
abbrev RepE (Z : Cls) (mo : Mem) (qs : List Addr) : Ev → Rho → Prop := Paired (RepS Z mo qs)
abbrev RepL (Z : Cls) (mo : Mem) (qs : List Addr) : List CV → List AV → Prop := Paired (RepC Z mo qs)
theorem memW_get {Z : Cls} : ∀ {qs : List Addr} {w : Own} {n : Nat} {q : Addr} {l : List PV}, qs[n]? = some q → w[n]? = some l → (q, Cell.l (absPs Z l)) ∈ memW Z qs w
  | [], _, _, _, _, h, _ => by simp at h
  | _ :: _, [], _, _, _, _, h => by simp at h
  | q :: qs, l :: w, 0, _, _, h1, h2 => by simp at h1 h2; subst h1 h2; simp [memW]
  | q :: qs, l :: w, n + 1, _, _, h1, h2 => by
    simp at h1 h2
    rw [memW]
    exact List.mem_cons_of_mem _ (memW_get h1 h2)
theorem RepE.get {Z : Cls} {mo : Mem} {qs : List Addr} : ∀ {ρc : Ev} {ρ : Rho} {i : Nat} {v : CV}, RepE Z mo qs ρc ρ → ρc[i]? = some (some v) → ∃ A, ρ[i]? = some (some A) ∧ RepC Z mo qs v A
  | _, _, _, _, .nil, h => by simp at h
  | _, some A :: _, 0, v, .cons r _, h => by simp at h; subst h; exact ⟨A, rfl, r⟩
  | _, none :: _, 0, v, .cons r _, h => by simp at h; subst h; exact r.elim
  | _, _, i + 1, v, .cons _ t, h => by
    obtain ⟨A, h1, h2⟩ := RepE.get (i := i) (v := v) t (by simpa using h)
    exact ⟨A, by simpa using h1, h2⟩
theorem RepE.set {Z : Cls} {mo : Mem} {qs : List Addr} {v : CV} {A : AV} (r : RepC Z mo qs v A) : ∀ {ρc : Ev} {ρ : Rho} (i : Nat), RepE Z mo qs ρc ρ → RepE Z mo qs (ρc.set i (some v)) (ρ.set i (some A))
  | _, _, _, .nil => .nil
  | _, _, 0, .cons _ t => .cons r t
  | _, _, i + 1, .cons q t => .cons q (RepE.set r i t)
theorem RepE.forget {Z : Cls} {mo : Mem} {qs : List Addr} {x : Option AV} : ∀ {ρc : Ev} {ρ : Rho} (i : Nat), RepE Z mo qs ρc ρ → RepE Z mo qs (ρc.set i none) (ρ.set i x)
  | _, _, _, .nil => .nil
  | _, _, 0, .cons _ t => .cons trivial t
  | _, _, i + 1, .cons q t => .cons q (RepE.forget i t)
theorem RepE.wipe {Z : Cls} {mo : Mem} {qs : List Addr} {ρc : Ev} {ρ : Rho} (h : RepE Z mo qs ρc ρ) : ∀ js : List Nat, RepE Z mo qs (wipeE ρc js) (wipeR ρ js)
  | [] => h
  | j :: js => (RepE.wipe h js).forget j
/-- what reads as a list -/
theorem RepC.ls {Z : Cls} {mo : Mem} {qs : List Addr} {w : Own} {c : CV} {A : AV} {l : List PV} (r : RepC Z mo qs c A) (h : asL w c = some l) : IsLs (mo ++ memW Z qs w) A (absPs Z l) := by
  cases r with
  | p v =>
    cases v with
    | lst l' => simp [asL] at h; subst h; rw [absP]; exact isLs_lst
    | _ => simp [asL] at h
  | r n q hq => exact isLs_mut (List.mem_append_right _ (memW_get hq h))
  | o l' q hq =>
    simp [asL] at h; subst h
    exact isLs_mut (List.mem_append_left _ hq)
theorem RepC.sq {Z : Cls} {mo : Mem} {qs : List Addr} {w : Own} {c : CV} {A : AV} {l : List PV} (r : RepC Z mo qs c A) (h : asS w c = some l) : IsSq (mo ++ memW Z qs w) A (absPs Z l) := by
  cases r with
  | p v =>
    cases v with
    | lst l' => simp [asS] at h; subst h; rw [absP]; exact isSq_lst
    | tup l' => simp [asS] at h; subst h; rw [absP]; exact isSq_tup
    | _ => simp [asS] at h
  | r n q hq => exact (isLs_mut (List.mem_append_right _ (memW_get hq h))).sq
  | o l' q hq =>
    simp [asS] at h; subst h
    exact (isLs_mut (List.mem_append_left _ hq)).sq
mutual
theorem isDat_abs (Z : Cls) (m : Mem) : ∀ v : PV, dat v = true → IsDat m (absP Z v) (D v)
  | .int i, _ => by rw [absP, D]; exact isDat_int
  | .bl b, _ => by rw [absP, D]; exact isDat_bool
  | .non, _ => by rw [absP, D]; exact isDat_non
  | .str s, _ => by rw [absP, D]; exact isDat_str
  | .tup l, h => by rw [absP, D]; rw [dat] at h; exact isDat_tup (allDat_abs Z m l h)
  | .lst l, h => by rw [absP, D]; rw [dat] at h; exact isDat_ls isLs_lst (allDat_abs Z m l h)
  | .ins _ _, h => by rw [dat] at h; cases h
  | .fn _, h => by rw [dat] at h; cases h
  | .dct _ _, h => by rw [dat] at h; cases h
  | .tun l, h => by
    rw [absP, D]; rw [dat] at h
    exact fun K fr H v o r => isDat_tup (allDat_abs Z m l h) K fr H v o (tun_tup r)
theorem allDat_abs (Z : Cls) (m : Mem) : ∀ l : List PV, dats l = true → AllDat m (absPs Z l) (Ds l)
  | [], _ => by rw [absPs, Ds]; exact .nil
  | v :: l, h => by
    rw [dats, Bool.and_eq_true] at h
    rw [absPs, Ds]
    exact .cons (isDat_abs Z m v h.1) (allDat_abs Z m l h.2)
end
theorem RepC.dat {Z : Cls} {mo : Mem} {qs : List Addr} {w : Own} {c : CV} {A : AV} {v : PV} (r : RepC Z mo qs c A) (h : asV w c = some v) (hd : EV.dat v = true) : IsDat (mo ++ memW Z qs w) A (D v) := by
  cases r with
  | p v' => simp [asV] at h; subst h; exact isDat_abs Z _ _ hd
  | r n q hq =>
    simp only [asV, Option.map_eq_some_iff] at h
    obtain ⟨l, h1, h2⟩ := h
    subst h2
    rw [D]; rw [EV.dat] at hd
    exact isDat_ls (isLs_mut (List.mem_append_right _ (memW_get hq h1))) (allDat_abs Z _ l hd)
  | o l q hq =>
    simp [asV] at h; subst h
    rw [D]; rw [EV.dat] at hd
    exact isDat_ls (isLs_mut (List.mem_append_left _ hq)) (allDat_abs Z _ l hd)
/-- truth -/
theorem RepC.tru {Z : Cls} {mo : Mem} {qs : List Addr} {w : Own} {c : CV} {A : AV} {b : Bool} (r : RepC Z mo qs c A) (h : truth w c = some b) {K : PySem.W.Frag} {fr : Frm} {H : Hp} {v : V} (o : MemV K fr (mo ++ memW Z qs w) H) (q : A.p K (Ms fr (mo ++ memW Z qs w)) H v) : TruV K v H b := by
  have ls : ∀ l : List PV, asL w c = some l → TruV K v H (!l.isEmpty) := fun l hl => by
    obtain ⟨a, vs, rfl, ha, hr⟩ := r.ls hl K fr H v o q
    refine .inl ⟨vs, .inl (.inl ha), ?_⟩
    have := hr.length
    rw [absPs_len] at this
    cases l <;> cases vs <;> simp_all
  cases r with
  | p u =>
    cases u with
    | int i => simp [truth] at h; rw [absP] at q; rw [show v = V.int i from q]; exact h.symm
    | bl i => simp [truth] at h; rw [absP] at q; rw [show v = V.bl i from q]; exact h.symm
    | non => simp [truth] at h; rw [absP] at q; rw [show v = V.non from q]; subst h; rfl
    | str s =>
      have h' : (if s.length ≤ 1000 then some ((s.length : Int) != 0) else none) = some b := h
      by_cases hs : s.length ≤ 1000
      · rw [if_pos hs] at h'
        cases h'
        rw [absP] at q; rw [show v = V.str s from q]
        exact ⟨Nat.le_of_lt (small1000 hs), rfl⟩
      · rw [if_neg hs] at h'
        cases h'
    | tup l =>
      simp only [truth, Option.some.injEq] at h; subst h
      rw [absP] at q
      obtain ⟨a, vs, rfl, ha, hr⟩ := q
      refine .inr (.inl ⟨vs, ha.sq, ?_⟩)
      have := hr.length
      rw [absPs_len] at this
      cases l <;> cases vs <;> simp_all
    | lst l => simp only [truth, Option.some.injEq] at h; subst h; exact ls l rfl
    | ins c l => simp [truth] at h
    | fn n => simp [truth] at h
    | tun l => simp [truth] at h
    | dct l _ => simp [truth] at h
  | r n q' hq =>
    simp only [truth, Option.map_eq_some_iff] at h
    obtain ⟨l, h1, h2⟩ := h
    subst h2
    exact ls l h1
  | o l q' hq => simp only [truth, Option.some.injEq] at h; subst h; exact ls l rfl
end EV
namespace EV
open PySem PySem.Spec L2 AL
open PyProof.Rows hiding St
theorem RepC.pE {Z : Cls} {mo : Mem} {qs : List Addr} {v : PV} {A : AV} (r : RepC Z mo qs (.p v) A) : A = absP Z v := by cases r; rfl
section
variable {P : Program} {w : World} {K : PySem.W.Frag} {mg : Str → Option Value} {base : Heap} {N : List Str} {sc : Scope} {df : Bool} {k : Nat} {X : Cx}
variable {ρ : Rho} {m : Mem} {Kt : KA} {Kb : KT} {pos : Pos} {e f g : Expr} {Z : Cls}
/-- one value comes of it -/
def Gives (X : Cx) (e : Expr) (ρ : Rho) (m : Mem) (R : AV → Prop) : Prop := ∀ Kt : KA, (∀ A, R A → Kt A m) → WE X e ρ m Kt
def GivesT (X : Cx) (e : Expr) (ρ : Rho) (m : Mem) (b : Bool) : Prop := ∀ Kt : KT, Kt b m → WT X e ρ m Kt
theorem Gives.to {R : AV → Prop} (h : Gives X e ρ m R) (q : ∀ A, R A → Kt A m) : WE X e ρ m Kt := h Kt q
variable {mo : Mem} {qs : List Addr} {ow : Own} {x y : CV} {v : PV}
/-! ### operators -/
def boE : BO → Operator
  | .add => .Add
  | .sub => .Sub
  | .mul => .Mult
  | .fdiv => .FloorDiv
  | .mod => .Mod
theorem isI {A : AV} {i : Int} (r : RepC Z mo qs (.p (.int i)) A) : A = AL.int i := by rw [r.pE, absP]
theorem isT {A : AV} {l : List PV} (r : RepC Z mo qs (.p (.tup l)) A) : A = AL.tup (absPs Z l) := by rw [r.pE, absP]
theorem isL {A : AV} {l : List PV} (r : RepC Z mo qs (.p (.lst l)) A) : A = AL.lst (absPs Z l) := by rw [r.pE, absP]
theorem absPs_app {l r : List PV} : absPs Z (l ++ r) = absPs Z l ++ absPs Z r := by simp [absPs_map]
theorem absPs_rep {l : List PV} {n : Nat} : absPs Z (repL l n) = (List.replicate n (absPs Z l)).flatten := by
  simp [absPs_map, repL, List.map_flatten, List.map_replicate]
theorem op_sound {o : BO} (h : binop ow o x y = some v) (ha : Gives X e ρ (mo ++ memW Z qs ow) (RepC Z mo qs x)) (hb : Gives X f ρ (mo ++ memW Z qs ow) (RepC Z mo qs y)) :
    Gives X (.BinOp e (boE o) f pos) ρ (mo ++ memW Z qs ow) (RepC Z mo qs (.p v)) := by
  intro Kt q
  unfold binop at h
  split at h
  · cases h
    exact we_add (ha.to fun A rA => hb.to fun B rB => ⟨_, _, isI rA, isI rB, q _ (by rw [← absP]; exact .p _)⟩)
  · split at h
    · rename_i hl
      cases h
      refine we_tcat (ha.to fun A rA => hb.to fun B rB => ⟨_, _, isT rA, isT rB, ?_, q _ (by rw [← absPs_app, ← absP]; exact .p _)⟩)
      rw [absPs_len, absPs_len]; exact of_decide_eq_true hl
    · cases h
  · split at h
    · rename_i h1 h2
      split at h
      · rename_i hl
        cases h
        refine we_lcat (ha.to fun A rA => hb.to fun B rB => ⟨_, _, rA.ls h1, rB.ls h2, ?_, q _ (by rw [← absPs_app, ← absP]; exact .p _)⟩)
        rw [absPs_len, absPs_len]; exact of_decide_eq_true hl
      · cases h
    · cases h
  · cases h
    exact we_sub (ha.to fun A rA => hb.to fun B rB => ⟨_, _, isI rA, isI rB, q _ (by rw [← absP]; exact .p _)⟩)
  · split at h
    · rename_i hl
      cases h
      exact we_mul (ha.to fun A rA => hb.to fun B rB => ⟨_, _, isI rA, isI rB, (show CMulW _ _ from of_decide_eq_true (p := _ < _) hl), q _ (by rw [← absP]; exact .p _)⟩)
    · cases h
  · split at h
    · rename_i hl
      cases h
      simp only [Bool.and_eq_true, decide_eq_true_eq, Bool.not_eq_true', small] at hl
      refine we_trep (ha.to fun A rA => hb.to fun B rB => ⟨_, _, isT rA, isI rB, ?_, hl.1.1.1, hl.1.1.2, ?_, q _ (by rw [← absPs_rep, ← absP]; exact .p _)⟩)
      · intro z
        have z2 := congrArg List.length z
        rw [absPs_len] at z2
        have := hl.2
        rw [List.isEmpty_eq_false_iff] at this
        exact this (List.length_eq_zero_iff.mp z2)
      · rw [absPs_len]; exact hl.1.2
    · cases h
  · split at h
    · rename_i h1
      split at h
      · rename_i hl
        cases h
        simp only [Bool.and_eq_true, decide_eq_true_eq] at hl
        refine we_lrep (ha.to fun A rA => hb.to fun B rB => ⟨_, _, rA.ls h1, isI rB, hl.1.1, hl.1.2, ?_, q _ (by rw [← absPs_rep, ← absP]; exact .p _)⟩)
        rw [absPs_len]; exact hl.2
      · cases h
    · cases h
  · split at h
    · rename_i hl
      cases h
      simp only [Bool.and_eq_true, decide_eq_true_eq] at hl
      exact we_fdivA (ha.to fun A rA => hb.to fun B rB => ⟨_, _, isI rA, isI rB, hl, q _ (by rw [← absP]; exact .p _)⟩)
    · cases h
  · split at h
    · rename_i hl
      cases h
      exact we_modA (ha.to fun A rA => hb.to fun B rB => ⟨_, _, isI rA, isI rB, of_decide_eq_true hl, q _ (by rw [← absP]; exact .p _)⟩)
    · cases h
  · cases h
/-! ### comparisons: as a relation with one answer -/
def coE : CO → CmpOp
  | .lt => .Lt
  | .le => .LtE
  | .gt => .Gt
  | .ge => .GtE
  | .eq => .Eq
  | .ne => .NotEq
  | .is => .Is
  | .isn => .IsNot
  | .inn => .In
  | .nin => .NotIn
theorem abs_I1 {p : Int → Int → Bool} : AbsOp K (rI0 fun i j => V.bl (p i j)) fun A B m Kt => ∃ i j, A = AL.int i ∧ B = AL.int j ∧ Kt (AL.bool (p i j)) m := fun A B m Kt fr ρ σ H x y Q ⟨i, j, e1, e2, q⟩ => abs_I0 A B m Kt fr ρ σ H x y Q ⟨i, j, e1, e2, trivial, q⟩
/-- no None -/
def NotNon (A : AV) : Prop := ∀ K M H v, A.p K M H v → v ≠ V.non
theorem abs_isX {b : Bool} : AbsOp K (fun x y H Q => y = V.non ∧ Q (V.bl (decide (x = V.non))) H) fun A B m Kt => (A = non ∧ b = true ∨ NotNon A ∧ b = false) ∧ B = non ∧ Kt (AL.bool b) m := by
  rintro A B m Kt fr ρ σ H u v Q ⟨hA, rfl, q⟩ o rx ry g
  have ev : v = V.non := ry
  subst ev
  refine ⟨rfl, g _ m _ H q (.refl _ _) o ?_⟩
  rcases hA with ⟨rfl, rfl⟩ | ⟨hn, rfl⟩
  · rw [show u = V.non from rx]; rfl
  · show V.bl _ = V.bl _
    rw [decide_eq_false (hn _ _ _ _ rx)]
theorem abs_notX {b : Bool} : AbsOp K (fun x y H Q => y = V.non ∧ Q (V.bl (!decide (x = V.non))) H) fun A B m Kt => (A = non ∧ b = true ∨ NotNon A ∧ b = false) ∧ B = non ∧ Kt (AL.bool (!b)) m := by
  rintro A B m Kt fr ρ σ H u v Q ⟨hA, rfl, q⟩ o rx ry g
  have ev : v = V.non := ry
  subst ev
  refine ⟨rfl, g _ m _ H q (.refl _ _) o ?_⟩
  rcases hA with ⟨rfl, rfl⟩ | ⟨hn, rfl⟩
  · rw [show u = V.non from rx]; rfl
  · show V.bl _ = V.bl _
    rw [decide_eq_false (hn _ _ _ _ rx)]
theorem abs_isB : AbsOp K (fun x y H Q => ∃ a b, x = V.bl a ∧ y = V.bl b ∧ Q (V.bl (decide (a = b))) H) fun A B m Kt => ∃ a b, A = AL.bool a ∧ B = AL.bool b ∧ Kt (AL.bool (decide (a = b))) m := by
  rintro A B m Kt fr ρ σ H u v Q ⟨a, b, rfl, rfl, q⟩ o rx ry g
  exact ⟨a, b, rx, ry, g _ m _ H q (.refl _ _) o rfl⟩
theorem abs_notB : AbsOp K (fun x y H Q => ∃ a b, x = V.bl a ∧ y = V.bl b ∧ Q (V.bl (!decide (a = b))) H) fun A B m Kt => ∃ a b, A = AL.bool a ∧ B = AL.bool b ∧ Kt (AL.bool (!decide (a = b))) m := by
  rintro A B m Kt fr ρ σ H u v Q ⟨a, b, rfl, rfl, q⟩ o rx ry g
  exact ⟨a, b, rx, ry, g _ m _ H q (.refl _ _) o rfl⟩
theorem abs_inD : AbsOp K (rInD K) fun A B m Kt => ∃ d ds, IsDat m A d ∧ IsDat m B (.list ds) ∧ SeqAt.shaped d = true ∧ SeqAt.shaped (.list ds) = true ∧ Kt (AL.bool (ds.any fun z => PyData.eqv z d)) m := by
  rintro A B m Kt fr ρ σ H x y Q ⟨d, ds, hA, hB, s1, s2, q⟩ o rx ry g
  exact ⟨d, ds, hA _ _ _ _ o.mem rx, hB _ _ _ _ o.mem ry, s1, s2, g _ m _ H q (.refl _ _) o rfl⟩
theorem abs_ninD : AbsOp K (rNotInD K) fun A B m Kt => ∃ d ds, IsDat m A d ∧ IsDat m B (.list ds) ∧ SeqAt.shaped d = true ∧ SeqAt.shaped (.list ds) = true ∧ Kt (AL.bool (!ds.any fun z => PyData.eqv z d)) m := by
  rintro A B m Kt fr ρ σ H x y Q ⟨d, ds, hA, hB, s1, s2, q⟩ o rx ry g
  exact ⟨d, ds, hA _ _ _ _ o.mem rx, hB _ _ _ _ o.mem ry, s1, s2, g _ m _ H q (.refl _ _) o rfl⟩
theorem nn_val {v : V} (h : v ≠ V.non) : NotNon (val v) := fun K M H u r => by rw [show u = v from r]; exact h
theorem nn_tup {As : List AV} : NotNon (AL.tup As) := fun K M H u ⟨a, vs, e, _⟩ => by rw [e]; intro z; cases z
theorem nn_lst {As : List AV} : NotNon (AL.lst As) := fun K M H u ⟨a, vs, e, _⟩ => by rw [e]; intro z; cases z
theorem nn_ins {C : Addr} {fs : List (Str × AV)} : NotNon (AL.ins C fs) := fun K M H u ⟨a, dx, vs, e, _⟩ => by rw [e]; intro z; cases z
theorem isSame_sound {v u : PV} {b : Bool} (h : isSame v u = some b) : (∃ a c, v = .bl a ∧ u = .bl c ∧ b = decide (a = c)) ∨ (u = .non ∧ (absP Z v = non ∧ b = true ∨ NotNon (absP Z v) ∧ b = false)) := by
  unfold isSame at h
  split at h
  · cases h; exact .inl ⟨_, _, rfl, rfl, rfl⟩
  · cases h; exact .inr ⟨rfl, .inl ⟨by rw [absP], rfl⟩⟩
  · cases h; exact .inr ⟨rfl, .inr ⟨by rw [absP]; exact nn_tup, rfl⟩⟩
  · cases h; exact .inr ⟨rfl, .inr ⟨by rw [absP]; exact nn_lst, rfl⟩⟩
  · cases h; exact .inr ⟨rfl, .inr ⟨by rw [absP]; exact nn_val (by intro z; cases z), rfl⟩⟩
  · cases h; exact .inr ⟨rfl, .inr ⟨by rw [absP]; exact nn_val (by intro z; cases z), rfl⟩⟩
  · cases h; exact .inr ⟨rfl, .inr ⟨by rw [absP]; exact nn_ins, rfl⟩⟩
  · cases h; exact .inr ⟨rfl, .inr ⟨by rw [absP]; exact nn_val (by intro z; cases z), rfl⟩⟩
  · cases h
/-- an operator that gives a bool, both ways: as a value and as a test -/
theorem cmp_fin {op : CmpOp} {r : R2} {R : KOp} {b : Bool} {B1 B2 : AV → Prop} (ho : OpR X (compareOp op) r) (hr : AbsOp X.K r R) (hm : behindInMarks op f = false)
    (ha : Gives X e ρ m B1) (hb : Gives X f ρ m B2) (hR : ∀ A B Kt, B1 A → B2 B → Kt (AL.bool b) m → R A B m Kt) :
    (Gives X (.Compare e [op] [f] pos) ρ m fun A => A = AL.bool b) ∧ GivesT X (.Compare e [op] [f] pos) ρ m b :=
  ⟨fun Kt q => we_cmp ho hr hm (ha.to fun A rA => hb.to fun B rB => hR A B Kt rA rB (q _ rfl)),
    fun Kt q => wt_cmp ho hr hm (ha.to fun A rA => hb.to fun B rB => hR A B _ rA rB ⟨b, rfl, q⟩)⟩
theorem eqP_sound {v u : PV} {b : Bool} (h : eqP v u = some b) : dat v = true ∧ dat u = true ∧ SeqAt.shaped (D v) = true ∧ SeqAt.shaped (D u) = true ∧ b = PyData.eqv (D v) (D u) := by
  have tp : ∀ p q : Int, dat (.tup [.int p, .int q]) = true ∧ SeqAt.shaped (D (.tup [.int p, .int q])) = true := fun p q => by
    simp [dat, dats, D, Ds, SeqAt.shaped, PyData.canLay0, PyData.canLayAll0, PyData.depth, PyData.depthAll]
  have ti : ∀ p : Int, dat (.int p) = true ∧ SeqAt.shaped (D (.int p)) = true := fun p => by
    simp [dat, dats, D, Ds, SeqAt.shaped, PyData.canLay0, PyData.canLayAll0, PyData.depth, PyData.depthAll]
  unfold eqP at h
  split at h
  · cases h
    refine ⟨(tp _ _).1, (tp _ _).1, (tp _ _).2, (tp _ _).2, ?_⟩
    simp [D, Ds, PyData.eqv, PyData.eqvAll, Bool.beq_eq_decide_eq]
  · cases h
    refine ⟨(ti _).1, (ti _).1, (ti _).2, (ti _).2, ?_⟩
    simp [D, PyData.eqv, Bool.beq_eq_decide_eq]
  · split at h
    · rename_i hh
      cases h
      simp only [Bool.and_eq_true, okD] at hh
      exact ⟨hh.1.1, hh.2.1, hh.1.2, hh.2.2, rfl⟩
    · cases h
theorem hu64 (a : At P w K mg base N sc df k X) : X.A.units + 64 < cLine := hu_at a
theorem hu65 (a : At P w K mg base N sc df k X) : X.A.units + 65 < cLine := by
  have := a.room.un
  omega
theorem asT_form {b : CV} {l : List PV} (h : asT b = some l) : b = .p (.tup l) := by
  unfold asT at h
  split at h
  · cases h; rfl
  · cases h
theorem cmp_sound (a : At P w K mg base N sc df k X) {o : CO} {b : Bool} (h : cmpop ow o x y = some b) (hm : behindInMarks (coE o) f = false) (ha : Gives X e ρ (mo ++ memW Z qs ow) (RepC Z mo qs x)) (hb : Gives X f ρ (mo ++ memW Z qs ow) (RepC Z mo qs y)) :
    (Gives X (.Compare e [coE o] [f] pos) ρ (mo ++ memW Z qs ow) fun A => A = AL.bool b) ∧ GivesT X (.Compare e [coE o] [f] pos) ρ (mo ++ memW Z qs ow) b := by
  have K1 : X.K = K := a.kt
  unfold cmpop at h
  split at h
  · split at h
    · cases h
      exact cmp_fin op_lt abs_I1 hm ha hb fun A B Kt rA rB q => ⟨_, _, isI rA, isI rB, q⟩
    · cases h
  · split at h
    · cases h
      exact cmp_fin op_le abs_I1 hm ha hb fun A B Kt rA rB q => ⟨_, _, isI rA, isI rB, q⟩
    · cases h
  · split at h
    · cases h
      exact cmp_fin op_gt abs_I1 hm ha hb fun A B Kt rA rB q => ⟨_, _, isI rA, isI rB, q⟩
    · cases h
  · split at h
    · cases h
      exact cmp_fin op_ge abs_I1 hm ha hb fun A B Kt rA rB q => ⟨_, _, isI rA, isI rB, q⟩
    · cases h
  · split at h
    · rename_i h1 h2
      obtain ⟨d1, d2, s1, s2, rfl⟩ := eqP_sound h
      exact cmp_fin (op_eqD (hu64 a)) abs_eqD hm ha hb fun A B Kt rA rB q => ⟨_, _, rA.dat h1 d1, rB.dat h2 d2, s1, s2, q⟩
    · cases h
  · split at h
    · rename_i h1 h2
      obtain ⟨b', h', rfl⟩ := Option.map_eq_some_iff.mp h
      obtain ⟨d1, d2, s1, s2, rfl⟩ := eqP_sound h'
      exact cmp_fin (op_neD (hu64 a)) abs_neD hm ha hb fun A B Kt rA rB q => ⟨_, _, rA.dat h1 d1, rB.dat h2 d2, s1, s2, q⟩
    · cases h
  · split at h
    · rcases isSame_sound (Z := Z) h with ⟨a1, c1, rfl, rfl, rfl⟩ | ⟨rfl, hA⟩
      · exact cmp_fin op_isBl abs_isB hm ha hb fun A B Kt rA rB q => ⟨_, _, by rw [rA.pE, absP], by rw [rB.pE, absP], q⟩
      · exact cmp_fin op_isN (abs_isX (b := b)) hm ha hb fun A B Kt rA rB q => ⟨by rw [rA.pE]; exact hA, by rw [rB.pE, absP], q⟩
    · cases h
  · split at h
    · obtain ⟨b', h', rfl⟩ := Option.map_eq_some_iff.mp h
      rcases isSame_sound (Z := Z) h' with ⟨a1, c1, rfl, rfl, rfl⟩ | ⟨rfl, hA⟩
      · exact cmp_fin op_notBl abs_notB hm ha hb fun A B Kt rA rB q => ⟨_, _, by rw [rA.pE, absP], by rw [rB.pE, absP], q⟩
      · exact cmp_fin op_notN (abs_notX (b := b')) hm ha hb fun A B Kt rA rB q => ⟨by rw [rA.pE]; exact hA, by rw [rB.pE, absP], q⟩
    · cases h
  · split at h
    · rename_i l hT
      split at h
      · rename_i v hv
        split at h
        · rename_i hh
          cases h
          simp only [Bool.and_eq_true, okT, decide_eq_true_eq] at hh
          obtain ⟨⟨⟨⟨q1, q2⟩, q3⟩, q4⟩, q5⟩ := hh
          have ey := asT_form hT
          subst ey
          refine cmp_fin (op_inT (hu64 a)) abs_inT hm ha hb fun A B Kt rA rB q => ⟨_, _, rA.dat hv q1, ?_, q3, q4, q5, q⟩
          rw [rB.pE, absP]
          exact isDat_tup (allDat_abs Z _ l q2)
        · cases h
      · cases h
    split at h
    · rename_i h1 h2
      split at h
      · rename_i hh
        cases h
        simp only [Bool.and_eq_true, okD] at hh
        refine cmp_fin (op_inD (hu65 a)) abs_inD hm ha hb fun A B Kt rA rB q => ⟨_, _, rA.dat h1 hh.1.1, ?_, hh.1.2, by rw [← D]; exact hh.2.2, q⟩
        have hd := hh.2.1
        rw [EV.dat] at hd
        exact isDat_ls (rB.ls h2) (allDat_abs Z _ _ hd)
      · cases h
    · cases h
  · split at h
    · rename_i l hT
      split at h
      · rename_i v hv
        split at h
        · rename_i hh
          cases h
          simp only [Bool.and_eq_true, okT, decide_eq_true_eq] at hh
          obtain ⟨⟨⟨⟨q1, q2⟩, q3⟩, q4⟩, q5⟩ := hh
          have ey := asT_form hT
          subst ey
          refine cmp_fin (op_ninT (hu64 a)) abs_ninT hm ha hb fun A B Kt rA rB q => ⟨_, _, rA.dat hv q1, ?_, q3, q4, q5, q⟩
          rw [rB.pE, absP]
          exact isDat_tup (allDat_abs Z _ l q2)
        · cases h
      · cases h
    split at h
    · rename_i h1 h2
      split at h
      · rename_i hh
        cases h
        simp only [Bool.and_eq_true, okD] at hh
        refine cmp_fin (op_notInD (hu65 a)) abs_ninD hm ha hb fun A B Kt rA rB q => ⟨_, _, rA.dat h1 hh.1.1, ?_, hh.1.2, by rw [← D]; exact hh.2.2, q⟩
        have hd := hh.2.1
        rw [EV.dat] at hd
        exact isDat_ls (rB.ls h2) (allDat_abs Z _ _ hd)
      · cases h
    · cases h
end
end EV
namespace EV
open PySem PySem.Spec L2 AL
open PyProof.Rows hiding St
/-- what is known of the whole program -/
structure Gx where
  P : Program
  w : World
  K : PySem.W.Frag
  mg : Str → Option Value
  base : Heap
  k : Nat
  Z : Cls
  T : Fns
abbrev Gx.At (G : Gx) (N : List Str) (sc : Scope) (df : Bool) (X : Cx) : Prop := AL.At G.P G.w G.K G.mg G.base N sc df G.k X
def OkE (G : Gx) (N : List Str) (sc : Scope) (df : Bool) (c : CE) (e : Expr) : Prop :=
  ∀ X, G.At N sc df X → ∀ ρc ow v, evE G.T c ρc ow = some v → ∀ mo qs ρ, qs.length = ow.length → RepE G.Z mo qs ρc ρ → Gives X e ρ (mo ++ memW G.Z qs ow) (RepC G.Z mo qs v)
def OkT (G : Gx) (N : List Str) (sc : Scope) (df : Bool) (c : CE) (e : Expr) : Prop :=
  ∀ X, G.At N sc df X → ∀ ρc ow v b, evE G.T c ρc ow = some v → truth ow v = some b → ∀ mo qs ρ, qs.length = ow.length → RepE G.Z mo qs ρc ρ → GivesT X e ρ (mo ++ memW G.Z qs ow) b
/-- the arguments from here on -/
def GivesL (X : Cx) (es : List Expr) (ρ : Rho) (m : Mem) (R : List AV → Prop) : Prop := ∀ Kl : KL, (∀ As, R As → Kl As m) → WA X es ρ m Kl
def OkL (G : Gx) (N : List Str) (sc : Scope) (df : Bool) (c : CEs) (es : List Expr) : Prop :=
  ∀ X, G.At N sc df X → ∀ ρc ow vs, evL G.T c ρc ow = some vs → ∀ mo qs ρ, qs.length = ow.length → RepE G.Z mo qs ρc ρ → GivesL X es ρ (mo ++ memW G.Z qs ow) (RepL G.Z mo qs vs)
def notStar : Expr → Bool
  | .Starred .. => false
  | _ => true
theorem star1 {e : Expr} (h : notStar e = true) (es : List Expr) (env : Env) : starEach (e :: es) env = (false, eval e env) :: starEach es env := by
  cases e <;> first | rfl | (simp [notStar] at h)
theorem star_none : ∀ {es : List Expr} (h : es.all notStar = true) (pos : Pos) (env : Env), (backTo pos (starEach es env)).any (·.1) = false
  | [], _, _, _ => rfl
  | e :: es, h, pos, env => by
    rw [List.all_cons, Bool.and_eq_true] at h
    rw [star1 h.1]
    show (false || (backTo pos (starEach es env)).any (·.1)) = false
    rw [Bool.false_or]
    exact star_none h.2 pos env
section
variable {G : Gx} {N : List Str} {sc : Scope} {df : Bool} {pos : Pos} {e f g : Expr} {c a b : CE} {es : List Expr} {cs : CEs}
/-! ### the plain ones -/
theorem okE_int {i : Int} {j} : OkE G N sc df (.const (.int i)) (.Constant (.int i) j pos) := fun X at_ ρc ow v h mo qs ρ hl hr Kt q => by
  cases h; exact we_int (q _ (by have := RepC.p (Z := G.Z) (mo := mo) (qs := qs) (.int i); rwa [absP] at this))
theorem okE_bool {i : Bool} {j} : OkE G N sc df (.const (.bl i)) (.Constant (.bool i) j pos) := fun X at_ ρc ow v h mo qs ρ hl hr Kt q => by
  cases h; exact we_bool (q _ (by have := RepC.p (Z := G.Z) (mo := mo) (qs := qs) (.bl i); rwa [absP] at this))
theorem okE_none {j} : OkE G N sc df (.const .non) (.Constant .none j pos) := fun X at_ ρc ow v h mo qs ρ hl hr Kt q => by
  cases h; exact we_none (q _ (by have := RepC.p (Z := G.Z) (mo := mo) (qs := qs) .non; rwa [absP] at this))
theorem okE_str {x : Str} {j} : OkE G N sc df (.const (.str x)) (.Constant (.str x) j pos) := fun X at_ ρc ow v h mo qs ρ hl hr Kt q => by
  cases h; exact we_str (q _ (by have := RepC.p (Z := G.Z) (mo := mo) (qs := qs) (.str x); rwa [absP] at this))
theorem okE_var {i : Nat} {x : Str} (hN : N[i]? = some x) (hv : sc.names.lookup x = some .local ∨ sc.names.lookup x = some .cell ∨ sc.names.lookup x = some .free)
    (hd : (x == ("__debug__" : Str)) = false) (hcd : (x == ("__classdict__" : Str)) = false) : OkE G N sc df (.var i) (.Name x pos) := fun X at_ ρc ow v h mo qs ρ hl hr Kt q => by
  have h2 : ρc[i]? = some (some v) := by
    simp only [evE] at h
    split at h
    · rename_i z; cases h; exact z
    · cases h
  obtain ⟨A, h3, h4⟩ := hr.get h2
  exact we_name at_ i hN hv h3 (q A h4) hd hcd
/-- a constant of the module -/
def GlobV (G : Gx) (x : Str) (p : PV) : Prop := ∃ (v : V) (u : Value), G.mg x = some u ∧ RelV v u ∧ ∀ M H, (absP G.Z p).p G.K M H v
theorem okE_glob {n : Nat} {x : Str} (hg : sc.names.lookup x = some .globalImplicit) (hG : ∀ p, G.T.glob[n]? = some p → GlobV G x p) (hd : (x == ("__debug__" : Str)) = false) : OkE G N sc df (.glob n) (.Name x pos) := fun X at_ ρc ow v h mo qs ρ hl hr Kt q => by
  simp only [evE] at h
  split at h
  · rename_i p hp
    cases h
    obtain ⟨v, u, h1, h2, h3⟩ := hG p hp
    exact we_glob at_ hg h1 h2 h3 (q _ (.p p)) hd
  · cases h
theorem okE_bin {o : BO} (ha : OkE G N sc df a e) (hb : OkE G N sc df b f) : OkE G N sc df (.bin o a b) (.BinOp e (boE o) f pos) := fun X at_ ρc ow v h mo qs ρ hl hr => by
  simp only [evE] at h
  split at h
  · cases h
  · rename_i x hx
    split at h
    · cases h
    · rename_i y hy
      split at h
      · rename_i u hu
        cases h
        exact op_sound hu (ha X at_ _ _ _ hx _ _ _ hl hr) (hb X at_ _ _ _ hy _ _ _ hl hr)
      · cases h
theorem cmp_both {o : CO} (hm : behindInMarks (coE o) f = false) (ha : OkE G N sc df a e) (hb : OkE G N sc df b f) {X : Cx} (at_ : G.At N sc df X) {ρc : Ev} {ow : Own} {v : CV} (h : evE G.T (.cmp o a b) ρc ow = some v) {mo : Mem} {qs : List Addr} {ρ : Rho} (hl : qs.length = ow.length) (hr : RepE G.Z mo qs ρc ρ) :
    ∃ r : Bool, v = .p (.bl r) ∧ (Gives X (.Compare e [coE o] [f] pos) ρ (mo ++ memW G.Z qs ow) fun A => A = AL.bool r) ∧ GivesT X (.Compare e [coE o] [f] pos) ρ (mo ++ memW G.Z qs ow) r := by
  simp only [evE] at h
  split at h
  · cases h
  · rename_i x hx
    split at h
    · cases h
    · rename_i y hy
      split at h
      · rename_i u hu
        cases h
        exact ⟨u, rfl, cmp_sound at_ hu hm (ha X at_ _ _ _ hx _ _ _ hl hr) (hb X at_ _ _ _ hy _ _ _ hl hr)⟩
      · cases h
theorem okE_cmp {o : CO} (hm : behindInMarks (coE o) f = false) (ha : OkE G N sc df a e) (hb : OkE G N sc df b f) : OkE G N sc df (.cmp o a b) (.Compare e [coE o] [f] pos) := fun X at_ ρc ow v h mo qs ρ hl hr Kt q => by
  obtain ⟨r, rfl, h1, _⟩ := cmp_both (pos := pos) hm ha hb at_ h hl hr
  exact h1 Kt fun A hA => q A (by rw [hA, ← absP.eq_2]; exact .p _)
theorem okT_cmp {o : CO} (hm : behindInMarks (coE o) f = false) (ha : OkE G N sc df a e) (hb : OkE G N sc df b f) : OkT G N sc df (.cmp o a b) (.Compare e [coE o] [f] pos) := fun X at_ ρc ow v t h ht mo qs ρ hl hr Kt q => by
  obtain ⟨r, rfl, _, h2⟩ := cmp_both (pos := pos) hm ha hb at_ h hl hr
  cases ht
  exact h2 Kt q
/-- tests that are no special form -/
def plainT : Expr → Bool
  | .UnaryOp .Not _ _ => false
  | .BoolOp .. => false
  | .IfExp .. => false
  | .Compare .. => false
  | _ => true
theorem plainT_eq {e : Expr} (h : plainT e = true) (env : Env) (whole : Sem Value) : isTrue e env whole = (do let v ← whole; standAt e.pos; holding [v] (truthy v)) := by
  cases e with
  | UnaryOp op x p => cases op <;> first | rfl | (simp [plainT] at h)
  | BoolOp => simp [plainT] at h
  | IfExp => simp [plainT] at h
  | Compare => simp [plainT] at h
  | _ => rfl
theorem okT_of (hp : plainT e = true) (ha : OkE G N sc df c e) : OkT G N sc df c e := fun X at_ ρc ow v t h ht mo qs ρ hl hr Kt q fr σ H o Q g => by
  refine le_T (pt_truth wpE_pe (plainT_eq hp _)) ?_
  refine (ha X at_ _ _ _ h _ _ _ hl hr).to (Kt := fun A m' => RepC G.Z mo qs v A ∧ m' = mo ++ memW G.Z qs ow) (fun A hA => ⟨hA, rfl⟩) fr σ H o _ fun A m' x H' ⟨hA, em⟩ x1 o1 r1 => ?_
  subst em
  exact ⟨t, hA.tru ht o1.mem r1, g t _ H' q x1 o1⟩
theorem okE_neg (ha : OkE G N sc df a e) : OkE G N sc df (.neg a) (.UnaryOp .USub e pos) := fun X at_ ρc ow v h mo qs ρ hl hr Kt q => by
  simp only [evE] at h
  split at h
  · rename_i i hi
    cases h
    exact we_neg ((ha X at_ _ _ _ hi _ _ _ hl hr).to fun A hA => ⟨i, isI hA, q _ (by rw [← absP]; exact .p _)⟩)
  · cases h
theorem okE_not (ha : OkE G N sc df a e) : OkE G N sc df (.not a) (.UnaryOp .Not e pos) := fun X at_ ρc ow v h mo qs ρ hl hr Kt q fr σ H o Q g => by
  simp only [evE] at h
  split at h
  · cases h
  · rename_i x hx
    split at h
    · cases h
    · rename_i t ht
      cases h
      refine le_E (pe_notT wpE_pe) ?_
      refine (ha X at_ _ _ _ hx _ _ _ hl hr).to (Kt := fun A m' => RepC G.Z mo qs x A ∧ m' = mo ++ memW G.Z qs ow) (fun A hA => ⟨hA, rfl⟩) fr σ H o _ fun A m' y H' ⟨hA, em⟩ x1 o1 r1 => ?_
      subst em
      exact ⟨t, hA.tru ht o1.mem r1, g (AL.bool (!t)) _ _ H' (q _ (by rw [← absP.eq_2]; exact .p _)) x1 o1 rfl⟩
theorem okT_not (ha : OkT G N sc df a e) : OkT G N sc df (.not a) (.UnaryOp .Not e pos) := fun X at_ ρc ow v t h ht mo qs ρ hl hr Kt q => by
  simp only [evE] at h
  split at h
  · cases h
  · rename_i x hx
    split at h
    · cases h
    · rename_i t' ht'
      cases h
      cases ht
      exact wt_not ((ha X at_ _ _ _ _ hx ht' _ _ _ hl hr) _ q)
/-! ### and, or -/
theorem okE_and {rest : List Expr} (ha : OkE G N sc df a e) (hb : OkE G N sc df b (.BoolOp .And (f :: rest) pos)) : OkE G N sc df (.and a b) (.BoolOp .And (e :: f :: rest) pos) := fun X at_ ρc ow v h mo qs ρ hl hr Kt q fr σ H o Q g => by
  simp only [evE] at h
  split at h
  · cases h
  · rename_i x hx
    refine le_E (pe_andT wpE_pe wpE_pe) ?_
    refine (ha X at_ _ _ _ hx _ _ _ hl hr).to (Kt := fun A m' => RepC G.Z mo qs x A ∧ m' = mo ++ memW G.Z qs ow) (fun A hA => ⟨hA, rfl⟩) fr σ H o _ fun A m' y H' ⟨hA, em⟩ x1 o1 r1 => ?_
    subst em
    split at h
    · cases h
    · rename_i ht
      refine ⟨true, hA.tru ht o1.mem r1, ?_⟩
      rw [if_pos rfl]
      exact (hb X at_ _ _ _ h _ _ _ hl hr) Kt q fr σ H' o1 Q (g.from x1)
    · rename_i ht
      cases h
      refine ⟨false, hA.tru ht o1.mem r1, ?_⟩
      rw [if_neg (by decide)]
      exact g A _ y H' (q A hA) x1 o1 r1
theorem okE_or {rest : List Expr} (ha : OkE G N sc df a e) (hb : OkE G N sc df b (.BoolOp .Or (f :: rest) pos)) : OkE G N sc df (.or a b) (.BoolOp .Or (e :: f :: rest) pos) := fun X at_ ρc ow v h mo qs ρ hl hr Kt q fr σ H o Q g => by
  simp only [evE] at h
  split at h
  · cases h
  · rename_i x hx
    refine le_E (pe_orT wpE_pe wpE_pe) ?_
    refine (ha X at_ _ _ _ hx _ _ _ hl hr).to (Kt := fun A m' => RepC G.Z mo qs x A ∧ m' = mo ++ memW G.Z qs ow) (fun A hA => ⟨hA, rfl⟩) fr σ H o _ fun A m' y H' ⟨hA, em⟩ x1 o1 r1 => ?_
    subst em
    split at h
    · cases h
    · rename_i ht
      cases h
      refine ⟨true, hA.tru ht o1.mem r1, ?_⟩
      rw [if_pos rfl]
      exact g A _ y H' (q A hA) x1 o1 r1
    · rename_i ht
      refine ⟨false, hA.tru ht o1.mem r1, ?_⟩
      rw [if_neg (by decide)]
      exact (hb X at_ _ _ _ h _ _ _ hl hr) Kt q fr σ H' o1 Q (g.from x1)
theorem okE_one {op} (ha : OkE G N sc df c e) : OkE G N sc df c (.BoolOp op [e] pos) := fun X at_ ρc ow v h mo qs ρ hl hr Kt q => we_one (ha X at_ _ _ _ h _ _ _ hl hr Kt q)
/-- and, or as tests -/
def OkW (G : Gx) (N : List Str) (sc : Scope) (df : Bool) (c : CE) (e : Expr) : Prop :=
  ∀ X, G.At N sc df X → ∀ ρc ow v b, evE G.T c ρc ow = some v → truth ow v = some b → ∀ mo qs ρ, qs.length = ow.length → RepE G.Z mo qs ρc ρ → ∀ Kt : KT, Kt b (mo ++ memW G.Z qs ow) → WW X e ρ (mo ++ memW G.Z qs ow) Kt
theorem okT_w {op} (h : OkW G N sc df c (.BoolOp op es pos)) : OkT G N sc df c (.BoolOp op es pos) := fun X at_ ρc ow v t h1 ht mo qs ρ hl hr Kt q => wt_of (h X at_ _ _ _ _ h1 ht _ _ _ hl hr Kt q)
theorem okW_and1 (ha : OkT G N sc df c e) : OkW G N sc df c (.BoolOp .And [e] pos) := fun X at_ ρc ow v t h ht mo qs ρ hl hr Kt q => ww_and1 (ha X at_ _ _ _ _ h ht _ _ _ hl hr Kt q)
theorem okW_or1 (ha : OkT G N sc df c e) : OkW G N sc df c (.BoolOp .Or [e] pos) := fun X at_ ρc ow v t h ht mo qs ρ hl hr Kt q => ww_or1 (ha X at_ _ _ _ _ h ht _ _ _ hl hr Kt q)
theorem okW_and {rest : List Expr} (ha : OkT G N sc df a e) (hb : OkW G N sc df b (.BoolOp .And (f :: rest) pos)) : OkW G N sc df (.and a b) (.BoolOp .And (e :: f :: rest) pos) := fun X at_ ρc ow v t h ht mo qs ρ hl hr Kt q => by
  simp only [evE] at h
  split at h
  · cases h
  · rename_i x hx
    split at h
    · cases h
    · rename_i h1
      exact ww_and (ha X at_ _ _ _ _ hx h1 _ _ _ hl hr _ (hb X at_ _ _ _ _ h ht _ _ _ hl hr Kt q))
    · rename_i h1
      cases h
      rw [h1] at ht
      cases ht
      exact ww_and (ha X at_ _ _ _ _ hx h1 _ _ _ hl hr _ q)
theorem okW_or {rest : List Expr} (ha : OkT G N sc df a e) (hb : OkW G N sc df b (.BoolOp .Or (f :: rest) pos)) : OkW G N sc df (.or a b) (.BoolOp .Or (e :: f :: rest) pos) := fun X at_ ρc ow v t h ht mo qs ρ hl hr Kt q => by
  simp only [evE] at h
  split at h
  · cases h
  · rename_i x hx
    split at h
    · cases h
    · rename_i h1
      cases h
      rw [h1] at ht
      cases ht
      exact ww_or (ha X at_ _ _ _ _ hx h1 _ _ _ hl hr _ q)
    · rename_i h1
      exact ww_or (ha X at_ _ _ _ _ hx h1 _ _ _ hl hr _ (hb X at_ _ _ _ _ h ht _ _ _ hl hr Kt q))
theorem okE_ife {t : Expr} (hc : OkT G N sc df c t) (ha : OkE G N sc df a e) (hb : OkE G N sc df b f) : OkE G N sc df (.ife c a b) (.IfExp t e f pos) := fun X at_ ρc ow v h mo qs ρ hl hr Kt q => by
  simp only [evE] at h
  split at h
  · cases h
  · rename_i x hx
    split at h
    · cases h
    · rename_i h1
      exact we_ifexp (hc X at_ _ _ _ _ hx h1 _ _ _ hl hr _ (ha X at_ _ _ _ h _ _ _ hl hr Kt q))
    · rename_i h1
      exact we_ifexp (hc X at_ _ _ _ _ hx h1 _ _ _ hl hr _ (hb X at_ _ _ _ h _ _ _ hl hr Kt q))
/-! ### displays, places -/
theorem okL_nil : OkL G N sc df .nil [] := fun X at_ ρc ow vs h mo qs ρ hl hr Kl q => by
  cases h; exact wa_nil (q [] .nil)
theorem okL_cons (hs : notStar e = true) (ha : OkE G N sc df a e) (ht : OkL G N sc df cs es) : OkL G N sc df (.cons a cs) (e :: es) := fun X at_ ρc ow vs h mo qs ρ hl hr Kl q => by
  simp only [evL] at h
  split at h
  · cases h
  · rename_i v hv
    split at h
    · cases h
    · rename_i us hu
      cases h
      exact wa_cons ((ha X at_ _ _ _ hv _ _ _ hl hr).to fun A hA => ht X at_ _ _ _ hu _ _ _ hl hr _ fun As hAs => q _ (.cons hA hAs)) (star1 hs _ _)
theorem allP_rep {Z : Cls} {mo : Mem} {qs : List Addr} : ∀ {vs : List CV} {ps : List PV} {As : List AV}, allP vs = some ps → RepL Z mo qs vs As → As = absPs Z ps
  | [], _, _, h, .nil => by cases h; rw [absPs]
  | .p v :: r, ps, _, h, .cons h1 t => by
    simp only [allP] at h
    split at h
    · rename_i l hl
      cases h
      rw [h1.pE, absPs, allP_rep hl t]
    · cases h
  | .r _ :: _, _, _, h, .cons _ _ => by simp [allP] at h
  | .o _ :: _, _, _, h, .cons _ _ => by simp [allP] at h
theorem okE_tup {ctx} (hs : OkL G N sc df cs es) : OkE G N sc df (.tup cs) (.Tuple es ctx pos) := fun X at_ ρc ow v h mo qs ρ hl hr Kt q => by
  simp only [evE] at h
  split at h
  · cases h
  · rename_i vs hv
    split at h
    · cases h
    · rename_i ps hp
      split at h
      · rename_i hsm
        cases h
        refine we_tup (hs X at_ _ _ _ hv _ _ _ hl hr _ fun As hAs => ?_)
        have eA := allP_rep hp hAs
        subst eA
        exact ⟨by rw [absPs_len]; exact of_decide_eq_true hsm, q _ (by rw [← absP]; exact .p _)⟩
      · cases h
theorem wn_disp (hs : OkL G N sc df cs es) {X : Cx} (at_ : G.At N sc df X) {ρc : Ev} {ow : Own} {v : CV} (h : evE G.T (.lst cs) ρc ow = some v) {mo : Mem} {qs : List Addr} {ρ : Rho} (hl : qs.length = ow.length) (hr : RepE G.Z mo qs ρc ρ) :
    ∃ ps, v = .p (.lst ps) ∧ ∀ Kl : KL, Kl (absPs G.Z ps) (mo ++ memW G.Z qs ow) → WN X (.List es pos) ρ (mo ++ memW G.Z qs ow) Kl := by
  simp only [evE] at h
  split at h
  · cases h
  · rename_i vs hv
    split at h
    · cases h
    · rename_i ps hp
      split at h
      · rename_i hsm
        cases h
        refine ⟨ps, rfl, fun Kl q => wn_list (hs X at_ _ _ _ hv _ _ _ hl hr _ fun As hAs => ?_)⟩
        have eA := allP_rep hp hAs
        subst eA
        exact ⟨by rw [absPs_len]; exact of_decide_eq_true hsm, q⟩
      · cases h
theorem okE_lst (hs : OkL G N sc df cs es) : OkE G N sc df (.lst cs) (.List es pos) := fun X at_ ρc ow v h mo qs ρ hl hr Kt q => by
  obtain ⟨ps, rfl, hw⟩ := wn_disp (pos := pos) hs at_ h hl hr
  exact WN.we (hw _ (q _ (by rw [← absP]; exact .p _)))
theorem absPs_atI {Z : Cls} {l : List PV} {i : Int} {v : PV} (h : L2.atI l i = some v) : L2.atI (absPs Z l) i = some (absP Z v) := by
  unfold L2.atI at h ⊢
  rw [absPs_len]
  cases hx : ixN l.length i with
  | none => rw [hx] at h; cases h
  | some j =>
    rw [hx] at h
    rw [absPs_map]
    show (l.map (absP Z))[j]? = _
    rw [List.getElem?_map, show l[j]? = some v from h]
    rfl
def plainIx : Expr → Bool
  | .Slice .. => false
  | .Tuple .. => false
  | .Constant .. => true
  | .Name .. => true
  | .BinOp .. => true
  | .UnaryOp .. => true
  | .Subscript .. => true
  | .Call .. => true
  | _ => false
theorem plainIx_eq (h : plainIx f = true) : PlainIx f := by
  cases f with
  | Constant c k p => cases c <;> exact fun _ _ => rfl
  | Name => exact fun _ _ => rfl
  | BinOp => exact fun _ _ => rfl
  | UnaryOp => exact fun _ _ => rfl
  | Subscript => exact fun _ _ => rfl
  | Call => exact fun _ _ => rfl
  | _ => simp [plainIx] at h
theorem okE_ix (hp : plainIx f = true) (ha : OkE G N sc df a e) (hb : OkE G N sc df b f) : OkE G N sc df (.ix a b) (.Subscript e f pos) := fun X at_ ρc ow v h mo qs ρ hl hr Kt q => by
  simp only [evE] at h
  split at h
  · cases h
  · rename_i x hx
    split at h
    · rename_i n hn
      split at h
      · cases h
      · rename_i l hl2
        split at h
        · rename_i u hu
          cases h
          exact we_ix ((ha X at_ _ _ _ hx _ _ _ hl hr).to fun A hA => (hb X at_ _ _ _ hn _ _ _ hl hr).to fun B hB => ⟨_, _, _, hA.sq hl2, isI hB, absPs_atI hu, q _ (.p _)⟩) (plainIx_eq hp)
        · cases h
    · cases h
/-- a slice's part -/
def OkO (G : Gx) (N : List Str) (sc : Scope) (df : Bool) (c : CE) (e : Option Expr) : Prop :=
  ∀ X, G.At N sc df X → ∀ ρc ow i, optI c (evE G.T c ρc ow) = some i → ∀ mo qs ρ, qs.length = ow.length → RepE G.Z mo qs ρc ρ → ∀ Ko, Ko i (mo ++ memW G.Z qs ow) → WO X e ρ (mo ++ memW G.Z qs ow) Ko
theorem okO_none : OkO G N sc df .no none := fun X at_ ρc ow i h mo qs ρ hl hr Ko q => by
  cases h; exact q
theorem okO_some (hn : c ≠ .no) (ha : OkE G N sc df c e) : OkO G N sc df c (some e) := fun X at_ ρc ow i h mo qs ρ hl hr Ko q => by
  unfold optI at h
  split at h
  · exact absurd rfl hn
  · split at h
    · rename_i i' hi
      cases h
      exact (ha X at_ _ _ _ hi _ _ _ hl hr).to fun A hA => ⟨_, isI hA, q⟩
    · cases h
theorem absPs_cut {Z : Cls} {l : List PV} {lo hi : Option Int} : cutA (absPs Z l) lo hi = absPs Z (cutP l lo hi) := by
  unfold cutA cutP
  rw [absPs_len]
  simp only [absPs_map, List.map_take, List.map_drop]
theorem we_cutL {X : Cx} {ρ : Rho} {m : Mem} {Kt : KA} {lo hi : Option Expr} {p2 : Pos} (h : WE X e ρ m fun A m1 => WO X lo ρ m1 fun l m2 => WO X hi ρ m2 fun u m3 => ∃ As, IsLs m3 A As ∧ m3 = m1 ∧ Kt (AL.lst (cutA As l u)) m3) : WE X (.Subscript e (.Slice lo hi none p2) pos) ρ m Kt := by
  intro fr σ H o Q g
  refine le_E (pe_slice sl_list wpE_pe (tO_po lo) (tO_po hi)) ?_
  refine h.to o fun A m1 v H1 h1 x1 o1 r1 => WO.to h1 o1 fun l m2 H2 h2 x2 o2 => WO.to h2 o2 fun u m3 H3 ⟨As, hA, em, q⟩ x3 o3 => ?_
  subst em
  obtain ⟨p, xs, rfl, t, rr⟩ := hA _ _ _ _ o3.mem (A.st r1 (x2.trans x3))
  exact ⟨p, xs, rfl, .inl (.inl t), fun s hs => g _ _ _ _ q (((x1.trans x2).trans x3).trans (.alloc hs)) (o3.alloc hs) ⟨s, _, rfl, at_newL o3.mem hs, (rr.cut l u).st (.alloc hs)⟩⟩
theorem okE_sl {lo hi : CE} {el eh : Option Expr} {p2 : Pos} (ha : OkE G N sc df a e) (h1 : OkO G N sc df lo el) (h2 : OkO G N sc df hi eh) : OkE G N sc df (.sl a lo hi) (.Subscript e (.Slice el eh none p2) pos) := fun X at_ ρc ow v h mo qs ρ hl hr Kt q => by
  simp only [evE] at h
  split at h
  · cases h
  · rename_i x hx
    split at h
    · cases h
    · rename_i l hlo
      split at h
      · cases h
      · rename_i u hhi
        split at h
        · rename_i ps
          cases h
          exact we_tsl ((ha X at_ _ _ _ hx _ _ _ hl hr).to fun A hA => h1 X at_ _ _ _ hlo _ _ _ hl hr _ (h2 X at_ _ _ _ hhi _ _ _ hl hr _ ⟨_, isT hA, by rw [absPs_cut]; exact q _ (by rw [← absP]; exact .p _)⟩))
        · split at h
          · rename_i ps hps
            cases h
            exact we_cutL ((ha X at_ _ _ _ hx _ _ _ hl hr).to fun A hA => h1 X at_ _ _ _ hlo _ _ _ hl hr _ (h2 X at_ _ _ _ hhi _ _ _ hl hr _ ⟨_, hA.ls hps, rfl, by rw [absPs_cut]; exact q _ (by rw [← absP]; exact .p _)⟩))
          · cases h
end
end EV
namespace EV
open PySem PySem.Spec L2 AL
open PyProof.Rows hiding St
/-- a def's contract, told by what it computes -/
def C_call (Z : Cls) (g : List CV → Option PV) : CT := fun As m Kt => ∃ vs v, RepL Z m [] vs As ∧ g vs = some v ∧ Kt (absP Z v) m
def asO (ow : Own) (vs : List CV) : List CV := vs.map fun v => match v with
  | .r n => .o ((ow[n]?).getD [])
  | v => v
theorem rep_asO {Z : Cls} {mo : Mem} {qs : List Addr} {ow : Own} (hl : qs.length = ow.length) : ∀ {vs : List CV} {As : List AV}, RepL Z mo qs vs As → RepL Z (mo ++ memW Z qs ow) [] (asO ow vs) As
  | [], _, .nil => .nil
  | v :: vs, A :: As, .cons r t => by
    refine .cons ?_ (rep_asO hl t)
    cases r with
    | p v => exact .p v
    | r n q h =>
      have hn : n < ow.length := by
        rw [← hl]
        exact (List.getElem?_eq_some_iff.mp h).1
      have hw : ow[n]? = some ow[n] := by simp [hn]
      show RepC Z _ [] (.o ((ow[n]?).getD [])) _
      rw [hw]
      exact .o _ q (List.mem_append_right _ (memW_get h hw))
    | o l q h => exact .o l q (List.mem_append_left _ h)
theorem cls_lookup : ∀ {fl : List Str} {As : List AV} {k : Nat} {x : Str} {A : AV}, fl.Nodup → fl[k]? = some x → As[k]? = some A → (fl.zip As).lookup x = some A
  | [], _, _, _, _, _, h, _ => by simp at h
  | _ :: _, [], _, _, _, _, _, h => by simp at h
  | y :: fl, B :: As, 0, x, A, _, h1, h2 => by
    simp at h1 h2
    subst h1 h2
    simp [List.lookup]
  | y :: fl, B :: As, k + 1, x, A, nd, h1, h2 => by
    simp at h1 h2
    have nd2 := List.nodup_cons.mp nd
    have ne : (x == y) = false := by
      rw [beq_eq_false_iff_ne]
      intro e
      subst e
      exact nd2.1 (List.mem_of_getElem? h1)
    rw [List.zip_cons_cons, List.lookup_cons, ne]
    exact cls_lookup nd2.2 h1 h2
theorem isIns {Z : Cls} {mo : Mem} {qs : List Addr} {A : AV} {c : Nat} {l : List PV} (r : RepC Z mo qs (.p (.ins c l)) A) : A = AL.ins (Z.at_ c) ((Z.fl c).zip (absPs Z l)) := by rw [r.pE, absP]
def baseOk : Expr → Bool
  | .Name .. => true
  | .Attribute .. => true
  | .Subscript .. => true
  | .Constant .. => true
  | .Call _ (_ :: _) _ _ => true
  | _ => false
theorem baseOk_eq {e : Expr} (h : baseOk e = true) (fl : Str) (env : Env) : attributeBase e fl env (eval e env) = eval e env := by
  cases e with
  | Call f as ks p =>
    cases as with
    | nil => simp [baseOk] at h
    | cons => cases f <;> rfl
  | Name => rfl
  | Attribute => rfl
  | Subscript => rfl
  | Constant => rfl
  | _ => simp [baseOk] at h
/-- a class as it stands -/
structure ClsOk (G : Gx) (c : Nat) : Prop where
  cls : L2.Cls G.K (G.Z.at_ c)
  na : ∀ (k : Nat) (fl : Str), (G.Z.fl c)[k]? = some fl → NoAttr G.K (G.Z.at_ c) fl
  nd : (G.Z.fl c).Nodup
/-- a class that is called -/
def MakeOk (G : Gx) (x : Str) (c : Nat) : Prop := ∃ j R, j + 1 ≤ G.k ∧ ClsC G.P G.w G.K G.mg G.base j x (G.Z.at_ c) R ∧ ∀ ps fs, G.T.make c ps = some fs → ∀ Kf, Kf ((G.Z.fl c).zip (absPs G.Z fs)) → R (absPs G.Z ps) Kf
def CallOk (G : Gx) (x : Str) (n : Nat) : Prop := ∃ j, j ≤ G.k ∧ FnC G.P G.w G.K G.mg G.base j x (C_call G.Z (G.T.call n))
section
variable {G : Gx} {N : List Str} {sc : Scope} {df : Bool} {pos p p2 : Pos} {e f g : Expr} {c a b : CE} {es : List Expr} {cs : CEs}
theorem okE_call {n : Nat} {x : Str} (F : CallOk G x n) (hg : sc.names.lookup x = some .globalImplicit) (hd : (x == ("__debug__" : Str)) = false) (hs : (e :: es).all notStar = true) (hL : OkL G N sc df cs (e :: es)) : OkE G N sc df (.call n cs) (.Call (.Name x p) (e :: es) [] pos) := fun X at_ ρc ow v h mo qs ρ hl hr Kt q => by
  obtain ⟨j, hj, F⟩ := F
  rw [List.all_cons, Bool.and_eq_true] at hs
  simp only [evE] at h
  split at h
  · cases h
  · rename_i vs hv
    split at h
    · rename_i u hu
      cases h
      exact we_call at_ F hj hg (hL X at_ _ _ _ hv _ _ _ hl hr _ fun As hAs => ⟨_, [], by rw [List.append_nil], asO ow vs, u, rep_asO hl hAs, hu, by show Kt _ (_ ++ []); rw [List.append_nil]; exact q _ (.p u)⟩) hd (star1 hs.1 _ _) (star_none hs.2 _ _)
    · cases h
theorem okE_call0 {n : Nat} {x : Str} (F : CallOk G x n) (hg : sc.names.lookup x = some .globalImplicit) (hd : (x == ("__debug__" : Str)) = false) : OkE G N sc df (.call n .nil) (.Call (.Name x p) [] [] pos) := fun X at_ ρc ow v h mo qs ρ hl hr Kt q fr σ Hh o Q g => by
  obtain ⟨j, hj, f, fd, ps, F, hm, hk, hb⟩ := F
  have hrm := at_.room.mono hj
  have e1 := at_.prog
  have e2 := at_.wd
  have e3 := at_.kt
  have e4 := at_.mt
  have e5 := at_.bas
  simp only [evE, evL] at h
  split at h
  · rename_i u hu
    cases h
    rw [← e1, ← e2, ← e3, ← e4, ← e5] at F
    rw [← e3] at hk hb
    refine le_E (pe_call0 (E := E0) F hrm (gl_of at_ hg) (by rw [e4]; exact hm) hk hb .nil pass0 hd) ?_
    show spOf X.K (C_call G.Z (G.T.call n)) ([] ++ []) Hh Q E0
    have hC : C_call G.Z (G.T.call n) [] (mo ++ memW G.Z qs ow) fun A mc' => Kt A (mc' ++ []) := ⟨[], u, .nil, hu, by show Kt _ (_ ++ []); rw [List.append_nil]; exact q _ (.p u)⟩
    have o' : Holds X.K fr ρ ((mo ++ memW G.Z qs ow) ++ []) σ Hh := by rw [List.append_nil]; exact o
    have g' : Got X.K fr ρ ((mo ++ memW G.Z qs ow) ++ []) σ Hh Kt Q := by rw [List.append_nil]; exact g
    exact call_sp (mf := []) hC o' .nil g' _
  · cases h
theorem okE_make {n : Nat} {x : Str} (F : MakeOk G x n) (hg : sc.names.lookup x = some .globalImplicit) (hd : (x == ("__debug__" : Str)) = false) (hs : (e :: es).all notStar = true) (hL : OkL G N sc df cs (e :: es)) : OkE G N sc df (.make n cs) (.Call (.Name x p) (e :: es) [] pos) := fun X at_ ρc ow v h mo qs ρ hl hr Kt q => by
  obtain ⟨j, R, hj, F, hR⟩ := F
  rw [List.all_cons, Bool.and_eq_true] at hs
  simp only [evE] at h
  split at h
  · cases h
  · rename_i vs hv
    split at h
    · cases h
    · rename_i ps hp
      split at h
      · rename_i u hu
        cases h
        refine we_make at_ F hj hg (hL X at_ _ _ _ hv _ _ _ hl hr _ fun As hAs => ?_) hd (star1 hs.1 _ _) (star_none hs.2 _ _)
        rw [allP_rep hp hAs]
        exact hR _ _ hu _ (q _ (by rw [← absP]; exact .p _))
      · cases h
theorem okE_fld {n i : Nat} {fl : Str} (C : ClsOk G n) (hf : (G.Z.fl n)[i]? = some fl) (hb : baseOk e = true) (ha : OkE G N sc df a e) : OkE G N sc df (.fld n i a) (.Attribute e fl pos) := fun X at_ ρc ow v h mo qs ρ hl hr Kt q => by
  simp only [evE] at h
  split at h
  · rename_i c' l hx
    split at h
    · rename_i hc
      have ec : c' = n := by simpa using hc
      subst ec
      split at h
      · rename_i u hu
        cases h
        refine we_fld ((ha X at_ _ _ _ hx _ _ _ hl hr).to fun A hA => ⟨_, _, absP G.Z u, isIns hA, by rw [at_.kt]; exact C.cls, by rw [at_.kt]; exact C.na _ _ hf, cls_lookup C.nd hf ?_, q _ (.p u)⟩) (baseOk_eq hb _ _)
        rw [absPs_map, List.getElem?_map, hu]
        rfl
      · cases h
    · cases h
  · cases h
/-! ### built-ins -/
theorem evL1 {T : Fns} {ρc : Ev} {ow : Own} {vs : List CV} (h : evL T (.cons a .nil) ρc ow = some vs) : ∃ v, evE T a ρc ow = some v ∧ vs = [v] := by
  simp only [evL] at h
  split at h
  · cases h
  · rename_i v hv
    cases h
    exact ⟨v, hv, rfl⟩
theorem evL2 {T : Fns} {ρc : Ev} {ow : Own} {vs : List CV} (h : evL T (.cons a (.cons b .nil)) ρc ow = some vs) : ∃ v u, evE T a ρc ow = some v ∧ evE T b ρc ow = some u ∧ vs = [v, u] := by
  simp only [evL] at h
  split at h
  · cases h
  · rename_i v hv
    split at h
    · cases h
    · rename_i us hu
      split at hu
      · cases hu
      · rename_i u hu2
        cases hu
        cases h
        exact ⟨v, u, hv, hu2, rfl⟩
theorem evBlt {T : Fns} {o : BI} {ρc : Ev} {ow : Own} {v : CV} (h : evE T (.blt o cs) ρc ow = some v) : ∃ vs u, evL T cs ρc ow = some vs ∧ bltin ow o vs = some u ∧ v = .p u := by
  simp only [evE] at h
  split at h
  · cases h
  · rename_i vs hv
    split at h
    · rename_i u hu
      cases h
      exact ⟨vs, u, hv, hu, rfl⟩
    · cases h
variable (B : Blt G.mg)
theorem wa1 {X : Cx} {ρ : Rho} {m : Mem} {R : AV → Prop} {Kl : KL} (hs : notStar e = true) (ha : Gives X e ρ m R) (q : ∀ A, R A → Kl [A] m) : WA X [e] ρ m Kl := wa_cons (ha.to fun A hA => wa_nil (q A hA)) (star1 hs _ _)
theorem wa2 {X : Cx} {ρ : Rho} {m : Mem} {R S : AV → Prop} {Kl : KL} (hs : notStar e = true) (ht : notStar f = true) (ha : Gives X e ρ m R) (hb : Gives X f ρ m S) (q : ∀ A B, R A → S B → Kl [A, B] m) : WA X [e, f] ρ m Kl :=
  wa_cons (ha.to fun A hA => wa_cons (hb.to fun B hB => wa_nil (q A B hA hB)) (star1 ht _ _)) (star1 hs _ _)
include B in
theorem okE_len (hg : sc.names.lookup ("len" : Str) = some .globalImplicit) (hs : notStar e = true) (ha : OkE G N sc df a e) : OkE G N sc df (.blt .len (.cons a .nil)) (.Call (.Name "len" p) [e] [] pos) := fun X at_ ρc ow v h mo qs ρ hl hr Kt q => by
  obtain ⟨vs, u, h1, h2, rfl⟩ := evBlt h
  obtain ⟨x, hx, rfl⟩ := evL1 h1
  simp only [bltin, Option.map_eq_some_iff] at h2
  obtain ⟨l, hl2, rfl⟩ := h2
  refine b_len at_ B hg (wa1 hs (ha X at_ _ _ _ hx _ _ _ hl hr) fun A hA => ⟨_, _, rfl, hA.sq hl2, q _ ?_⟩) (star1 hs _ _) rfl
  rw [absPs_len, ← absP]; exact .p _
include B in
theorem okE_abs (hg : sc.names.lookup ("abs" : Str) = some .globalImplicit) (hs : notStar e = true) (ha : OkE G N sc df a e) : OkE G N sc df (.blt .abs (.cons a .nil)) (.Call (.Name "abs" p) [e] [] pos) := fun X at_ ρc ow v h mo qs ρ hl hr Kt q => by
  obtain ⟨vs, u, h1, h2, rfl⟩ := evBlt h
  obtain ⟨x, hx, rfl⟩ := evL1 h1
  have key : ∃ i, x = .p (.int i) ∧ u = .int (if i < 0 then -i else i) := by
    rcases x with w | n | l
    · cases w with
      | int i => simp only [bltin, Option.some.injEq] at h2; exact ⟨i, rfl, h2.symm⟩
      | _ => simp [bltin] at h2
    · simp [bltin] at h2
    · simp [bltin] at h2
  obtain ⟨i, rfl, rfl⟩ := key
  refine b_abs at_ B hg (wa1 hs (ha X at_ _ _ _ hx _ _ _ hl hr) fun A hA => ⟨i, by rw [isI hA], q _ ?_⟩) (star1 hs _ _) rfl
  rw [← absP]; exact .p _
include B in
theorem okE_int1 (hg : sc.names.lookup ("int" : Str) = some .globalImplicit) (hs : notStar e = true) (ha : OkE G N sc df a e) : OkE G N sc df (.blt .int (.cons a .nil)) (.Call (.Name "int" p) [e] [] pos) := fun X at_ ρc ow v h mo qs ρ hl hr Kt q => by
  obtain ⟨vs, u, h1, h2, rfl⟩ := evBlt h
  obtain ⟨x, hx, rfl⟩ := evL1 h1
  have key : (∃ i, x = .p (.int i) ∧ u = .int i) ∨ ∃ t : Bool, x = .p (.bl t) ∧ u = .int (if t then 1 else 0) := by
    rcases x with w | n | l
    · cases w with
      | int i => simp only [bltin, Option.some.injEq] at h2; exact .inl ⟨i, rfl, h2.symm⟩
      | bl t => simp only [bltin, Option.some.injEq] at h2; exact .inr ⟨t, rfl, h2.symm⟩
      | _ => simp [bltin] at h2
    · simp [bltin] at h2
    · simp [bltin] at h2
  rcases key with ⟨i, rfl, rfl⟩ | ⟨t, rfl, rfl⟩
  · refine b_int at_ B hg (wa1 hs (ha X at_ _ _ _ hx _ _ _ hl hr) fun A hA => .inl ⟨i, by rw [isI hA], q _ ?_⟩) (star1 hs _ _) rfl
    rw [← absP]; exact .p _
  · refine b_int at_ B hg (wa1 hs (ha X at_ _ _ _ hx _ _ _ hl hr) fun A hA => .inr ⟨t, by rw [hA.pE, absP], q _ ?_⟩) (star1 hs _ _) rfl
    rw [← absP]; exact .p _
theorem boolsOf_eq {Z : Cls} : ∀ {l : List PV} {bs : List Bool}, boolsOf l = some bs → absPs Z l = bs.map AL.bool
  | [], _, h => by cases h; rw [absPs]; rfl
  | v :: r, bs, h => by
    cases v with
    | bl t =>
      simp only [boolsOf] at h
      split at h
      · rename_i l hl
        cases h
        rw [absPs, absP, boolsOf_eq hl]
        rfl
      · cases h
    | _ => simp [boolsOf] at h
theorem b_allX {X : Cx} {ρ : Rho} {m : Mem} {Kt : KA} (a : G.At N sc df X) (Z : Blt G.mg) (hg : sc.names.lookup ("all" : Str) = some .globalImplicit) (h : WA X [e] ρ m fun As m1 => ∃ (A : AV) (bs : List Bool), As = [A] ∧ IsLs m1 A (bs.map AL.bool) ∧ Kt (AL.bool (bs.all id)) m1) (he : starEach (e :: []) X.env = (false, eval e X.env) :: starEach [] X.env) : WE X (.Call (.Name "all" p) [e] [] pos) ρ m Kt := by
  refine we_callB a (cr_all a.calm) (R := fun As m Kt => ∃ (A : AV) (bs : List Bool), As = [A] ∧ IsLs m A (bs.map AL.bool) ∧ Kt (AL.bool (bs.all id)) m) ?_ hg Z.all (by decide +kernel) h (by decide) (by decide) he rfl
  rintro As m Kt fr ρ σ H vs Q ⟨A, bs, rfl, hl, q⟩ o r g
  cases r with
  | cons r t =>
    cases t
    obtain ⟨p, us, rfl, hp, rr⟩ := hl _ _ _ _ o.mem r
    have e1 := allV_bools rr
    subst e1
    exact ⟨p, bs, rfl, .inl (.inl hp), g _ m _ H q (.refl _ _) o rfl⟩
theorem b_anyX {X : Cx} {ρ : Rho} {m : Mem} {Kt : KA} (a : G.At N sc df X) (Z : Blt G.mg) (hg : sc.names.lookup ("any" : Str) = some .globalImplicit) (h : WA X [e] ρ m fun As m1 => ∃ (A : AV) (bs : List Bool), As = [A] ∧ IsLs m1 A (bs.map AL.bool) ∧ Kt (AL.bool (bs.any id)) m1) (he : starEach (e :: []) X.env = (false, eval e X.env) :: starEach [] X.env) : WE X (.Call (.Name "any" p) [e] [] pos) ρ m Kt := by
  refine we_callB a (cr_any a.calm) (R := fun As m Kt => ∃ (A : AV) (bs : List Bool), As = [A] ∧ IsLs m A (bs.map AL.bool) ∧ Kt (AL.bool (bs.any id)) m) ?_ hg Z.any (by decide +kernel) h (by decide) (by decide) he rfl
  rintro As m Kt fr ρ σ H vs Q ⟨A, bs, rfl, hl, q⟩ o r g
  cases r with
  | cons r t =>
    cases t
    obtain ⟨p, us, rfl, hp, rr⟩ := hl _ _ _ _ o.mem r
    have e1 := allV_bools rr
    subst e1
    exact ⟨p, bs, rfl, .inl (.inl hp), g _ m _ H q (.refl _ _) o rfl⟩
include B in
theorem okE_all (hg : sc.names.lookup ("all" : Str) = some .globalImplicit) (hs : notStar e = true) (ha : OkE G N sc df a e) : OkE G N sc df (.blt .all (.cons a .nil)) (.Call (.Name "all" p) [e] [] pos) := fun X at_ ρc ow v h mo qs ρ hl hr Kt q => by
  obtain ⟨vs, u, h1, h2, rfl⟩ := evBlt h
  obtain ⟨x, hx, rfl⟩ := evL1 h1
  simp only [bltin] at h2
  split at h2
  · rename_i l hl2
    obtain ⟨bs, h3, rfl⟩ := Option.map_eq_some_iff.mp h2
    refine b_allX at_ B hg (wa1 hs (ha X at_ _ _ _ hx _ _ _ hl hr) fun A hA => ⟨A, bs, rfl, by rw [← boolsOf_eq h3]; exact hA.ls hl2, q _ ?_⟩) (star1 hs _ _)
    rw [← absP.eq_2]; exact .p _
  · cases h2
include B in
theorem okE_any (hg : sc.names.lookup ("any" : Str) = some .globalImplicit) (hs : notStar e = true) (ha : OkE G N sc df a e) : OkE G N sc df (.blt .any (.cons a .nil)) (.Call (.Name "any" p) [e] [] pos) := fun X at_ ρc ow v h mo qs ρ hl hr Kt q => by
  obtain ⟨vs, u, h1, h2, rfl⟩ := evBlt h
  obtain ⟨x, hx, rfl⟩ := evL1 h1
  simp only [bltin] at h2
  split at h2
  · rename_i l hl2
    obtain ⟨bs, h3, rfl⟩ := Option.map_eq_some_iff.mp h2
    refine b_anyX at_ B hg (wa1 hs (ha X at_ _ _ _ hx _ _ _ hl hr) fun A hA => ⟨A, bs, rfl, by rw [← boolsOf_eq h3]; exact hA.ls hl2, q _ ?_⟩) (star1 hs _ _)
    rw [← absP.eq_2]; exact .p _
  · cases h2
include B in
theorem okE_tuple1 (hg : sc.names.lookup ("tuple" : Str) = some .globalImplicit) (hs : notStar e = true) (ha : OkE G N sc df a e) : OkE G N sc df (.blt .tuple (.cons a .nil)) (.Call (.Name "tuple" p) [e] [] pos) := fun X at_ ρc ow v h mo qs ρ hl hr Kt q => by
  obtain ⟨vs, u, h1, h2, rfl⟩ := evBlt h
  obtain ⟨x, hx, rfl⟩ := evL1 h1
  have key : (∃ l, x = .p (.tup l) ∧ u = .tup l) ∨ ∃ l, asL ow x = some l ∧ u = .tun l := by
    rcases x with w | n | l
    · cases w with
      | tup l => simp only [bltin, Option.some.injEq] at h2; exact .inl ⟨l, rfl, h2.symm⟩
      | lst l => simp [bltin, asL] at h2; exact .inr ⟨l, rfl, h2.symm⟩
      | _ => simp [bltin, asL] at h2
    · simp [bltin, asL] at h2
      obtain ⟨l, h3, h4⟩ := h2
      exact .inr ⟨l, h3, h4.symm⟩
    · simp [bltin, asL] at h2; exact .inr ⟨l, rfl, h2.symm⟩
  rcases key with ⟨l, rfl, rfl⟩ | ⟨l, hl2, rfl⟩
  · refine b_tuple at_ B hg (wa1 hs (ha X at_ _ _ _ hx _ _ _ hl hr) fun A hA => .inr ⟨absPs G.Z l, by rw [isT hA], q _ ?_⟩) (star1 hs _ _) rfl
    rw [← absP]; exact .p _
  · refine b_tun at_ B hg (wa1 hs (ha X at_ _ _ _ hx _ _ _ hl hr) fun A hA => ⟨A, _, rfl, hA.ls hl2, q _ ?_⟩) (star1 hs _ _) rfl
    rw [← absP]; exact .p _
include B in
theorem okE_list1 (hg : sc.names.lookup ("list" : Str) = some .globalImplicit) (hs : notStar e = true) (ha : OkE G N sc df a e) : OkE G N sc df (.blt .list (.cons a .nil)) (.Call (.Name "list" p) [e] [] pos) := fun X at_ ρc ow v h mo qs ρ hl hr Kt q => by
  obtain ⟨vs, u, h1, h2, rfl⟩ := evBlt h
  obtain ⟨x, hx, rfl⟩ := evL1 h1
  simp only [bltin, Option.map_eq_some_iff] at h2
  obtain ⟨l, hl2, rfl⟩ := h2
  refine b_listOf at_ B hg (wa1 hs (ha X at_ _ _ _ hx _ _ _ hl hr) fun A hA => ⟨_, _, rfl, hA.sq hl2, q _ ?_⟩) (star1 hs _ _) rfl
  rw [← absP]; exact .p _
include B in
theorem okE_gcd (hg : sc.names.lookup ("gcd" : Str) = some .globalImplicit) (hs : notStar e = true) (ht : notStar f = true) (ha : OkE G N sc df a e) (hb : OkE G N sc df b f) : OkE G N sc df (.blt .gcd (.cons a (.cons b .nil))) (.Call (.Name "gcd" p) [e, f] [] pos) := fun X at_ ρc ow v h mo qs ρ hl hr Kt q => by
  obtain ⟨vs, u, h1, h2, rfl⟩ := evBlt h
  obtain ⟨x, y, hx, hy, rfl⟩ := evL2 h1
  have key : ∃ i j, x = .p (.int i) ∧ y = .p (.int j) ∧ u = .int ((Nat.gcd i.natAbs j.natAbs : Nat) : Int) := by
    rcases x with w | n | l
    · cases w with
      | int i =>
        rcases y with w | n | l
        · cases w with
          | int j => simp only [bltin, Option.some.injEq] at h2; exact ⟨i, j, rfl, rfl, h2.symm⟩
          | _ => simp [bltin] at h2
        · simp [bltin] at h2
        · simp [bltin] at h2
      | _ => simp [bltin] at h2
    · simp [bltin] at h2
    · simp [bltin] at h2
  obtain ⟨i, j, rfl, rfl, rfl⟩ := key
  refine b_gcd at_ B hg (wa2 hs ht (ha X at_ _ _ _ hx _ _ _ hl hr) (hb X at_ _ _ _ hy _ _ _ hl hr) fun A C hA hC => ⟨i, j, by rw [isI hA, isI hC], q _ ?_⟩) (star1 hs _ _) (star_none (by simp [ht]) _ _)
  rw [← absP]; exact .p _
/-! ### isinstance -/
def tyS : Nat → String
  | 0 => "int"
  | 1 => "bool"
  | 2 => "tuple"
  | 3 => "list"
  | _ => "str"
theorem isType_sound {t : Nat} (ht : t < 4) {v : PV} {r : Bool} (h : isType t v = some r) : ∃ s, HasTy (absP G.Z v) s ∧ kitB s (tyS t) = some r := by
  have hc : t = 0 ∨ t = 1 ∨ t = 2 ∨ t = 3 := by omega
  cases v with
  | int i => refine ⟨"int", by rw [absP]; exact ty_int, ?_⟩; rcases hc with rfl | rfl | rfl | rfl <;> (simp [isType] at h; subst h; decide +kernel)
  | bl i => refine ⟨"bool", by rw [absP]; exact ty_bool, ?_⟩; rcases hc with rfl | rfl | rfl | rfl <;> (simp [isType] at h; subst h; decide +kernel)
  | non => refine ⟨"NoneType", by rw [absP]; exact ty_non, ?_⟩; rcases hc with rfl | rfl | rfl | rfl <;> (simp [isType] at h; subst h; decide +kernel)
  | str i => refine ⟨"str", by rw [absP]; exact ty_str, ?_⟩; rcases hc with rfl | rfl | rfl | rfl <;> (simp [isType] at h; subst h; decide +kernel)
  | tup l => refine ⟨"tuple", by rw [absP]; exact ty_tup, ?_⟩; rcases hc with rfl | rfl | rfl | rfl <;> (simp [isType] at h; subst h; decide +kernel)
  | lst l => refine ⟨"list", by rw [absP]; exact ty_lst, ?_⟩; rcases hc with rfl | rfl | rfl | rfl <;> (simp [isType] at h; subst h; decide +kernel)
  | ins c l => simp [isType] at h
  | fn n => simp [isType] at h
  | tun n => simp [isType] at h
  | dct n _ => simp [isType] at h
theorem evIsi {T : Fns} {t : Nat} {ρc : Ev} {ow : Own} {v : CV} (h : evE T (.isi t a) ρc ow = some v) : ∃ x r, evE T a ρc ow = some (.p x) ∧ isType t x = some r ∧ v = .p (.bl r) := by
  simp only [evE] at h
  split at h
  · rename_i x hx
    split at h
    · rename_i r hr
      cases h
      exact ⟨x, r, hx, hr, rfl⟩
    · cases h
  · cases h
include B in
theorem okE_isi {t : Nat} (ht : t < 4) (hg : sc.names.lookup ("isinstance" : Str) = some .globalImplicit) (hgt : sc.names.lookup (tyS t : Str) = some .globalImplicit) (hs : notStar e = true) (ha : OkE G N sc df a e) : OkE G N sc df (.isi t a) (.Call (.Name "isinstance" p) [e, .Name (tyS t) p2] [] pos) := fun X at_ ρc ow v h mo qs ρ hl hr Kt q => by
  obtain ⟨x, r, hx, h2, rfl⟩ := evIsi h
  obtain ⟨s, h3, h4⟩ := isType_sound (G := G) ht h2
  have hg2 : Gives X (.Name (tyS t) p2) ρ (mo ++ memW G.Z qs ow) fun A => A = val (.ty (tyS t)) := fun Kt q => by
    have hc : t = 0 ∨ t = 1 ∨ t = 2 ∨ t = 3 := by omega
    rcases hc with rfl | rfl | rfl | rfl
    · exact g_int at_ B hgt (q _ rfl)
    · exact g_bool at_ B hgt (q _ rfl)
    · exact g_tuple at_ B hgt (q _ rfl)
    · exact g_list at_ B hgt (q _ rfl)
  refine b_isinstance at_ hg B.isi (wa2 hs rfl (ha X at_ _ _ _ hx _ _ _ hl hr) hg2 fun A C hA hC => .inl ⟨A, s, tyS t, r, by rw [hC], by rw [hA.pE]; exact h3, h4, q _ ?_⟩) (star1 hs _ _) rfl
  rw [← absP.eq_2]; exact .p _
end
end EV
/-! ZM: zip of a list and a tuple: each side is told by its kind (true: a list). -/
namespace ZM
open PySem PySem.F L2 AL
open PyProof.Rows hiding St
def Itr (k : Bool) (h : Heap) (a l : Addr) (i : Nat) : Prop := match k with
  | true => h.IsListIter a l i
  | false => h.IsTupleIter a l i
def Seqs (k : Bool) (h : Heap) (l : Addr) (xs : Array Value) : Prop := match k with
  | true => h.IsList l xs
  | false => h.IsTuple l xs
theorem Itr.ext {k : Bool} {h h' : Heap} {a b l : Addr} {i : Nat} (x : Itr k h a l i) (e : Heap.ExtBut b h h') (n : a ≠ b) : Itr k h' a l i := by
  cases k
  · exact Heap.IsTupleIter.extBut x e n
  · exact Heap.IsListIter.extBut x e n
theorem Itr.to {k : Bool} {h h' : Heap} {a l : Addr} {i : Nat} (x : Itr k h a l i) (e : ∀ o, h.get? a = some o → h'.get? a = some o) : Itr k h' a l i := by
  cases k
  · exact Heap.IsTupleIter.at x e
  · exact Heap.IsListIter.at x e
theorem Seqs.ext {k : Bool} {h h' : Heap} {a b : Addr} {xs : Array Value} (x : Seqs k h a xs) (e : Heap.ExtBut b h h') (n : a ≠ b) : Seqs k h' a xs := by
  cases k
  · exact Heap.IsTuple.extBut x e n
  · exact Heap.IsList.extBut x e n
theorem Itr.obj {k : Bool} {h : Heap} {a l : Addr} {i : Nat} (x : Itr k h a l i) : ∃ o, h.get? a = some o ∧ ∃ vs, o.data = .fields vs := by
  cases k
  · obtain ⟨o, e, _, d⟩ := x
    exact ⟨o, e, _, d⟩
  · obtain ⟨o, e, _, d⟩ := x
    exact ⟨o, e, _, d⟩
section
variable {prog : Program} {w : World} {A : Around} {E : Value → Shared → Prop} {s : Shared}
theorem one_item {k : Bool} {a l : Addr} {i : Nat} {xs : Array Value} {x : Value} {Q : Value → Shared → Prop} (hi : Itr k s.heap a l i) (hl : Seqs k s.heap l xs) (hx : xs[i]? = some x)
    (q : ∀ h', Itr k h' a l (i + 1) → Heap.SameBut a s.heap h' → Q x { s with heap := h' }) : wpAny (model prog w) A (Builtin.SmallTypes.nextOf (.ref a)) Q E s := by
  cases k
  · exact RZ.nextOf_tuple_item hi hl hx q
  · exact wpAny_nextOf_list_item hi hl hx q
theorem one_end {k : Bool} {a l : Addr} {i : Nat} {xs : Array Value} {Q : Value → Shared → Prop} (hh : A.handled = none) (hi : Itr k s.heap a l i) (hl : Seqs k s.heap l xs) (hx : xs[i]? = none)
    (q : ∀ h' e, Heap.ExtBut a s.heap h' → (∃ o, h'.get? e = some o ∧ o.cls = .type "StopIteration") → E (.ref e) { s with heap := h' }) : wpAny (model prog w) A (Builtin.SmallTypes.nextOf (.ref a)) Q E s := by
  cases k
  · exact RZ.nextOf_tuple_end hh hi hl hx q
  · exact wpAny_nextOf_list_end hh hi hl hx q
theorem turn_item {k1 k2 : Bool} {z p q i1 i2 l1 l2 : Addr} {n1 n2 : Nat} {xs ys : Array Value} {x y u v : Value} {R : Value → Shared → Prop} (D : ZipApart z p q i1 i2 l1 l2) (gz : IsZip s.heap z p q .none) (gp : IsPair s.heap p (.ref i1) (.ref i2)) (gq : IsPair s.heap q u v)
    (g1 : Itr k1 s.heap i1 l1 n1) (g2 : Itr k2 s.heap i2 l2 n2) (gl1 : Seqs k1 s.heap l1 xs) (gl2 : Seqs k2 s.heap l2 ys) (ex : xs[n1]? = some x) (ey : ys[n2]? = some y)
    (fin : ∀ h', IsZip h' z p q (rawInt s.heap.objs.size) → IsPair h' q x y → Itr k1 h' i1 l1 (n1 + 1) → Itr k2 h' i2 l2 (n2 + 1) → IsPair h' s.heap.objs.size x y → h'.objs.size = s.heap.objs.size + 1 → (∀ c o, c ≠ z → c ≠ q → c ≠ i1 → c ≠ i2 → s.heap.get? c = some o → h'.get? c = some o) → R (.ref s.heap.objs.size) { s with heap := h' }) :
    wpAny (model prog w) A (Builtin.«zip.__next__» ⟨[.ref z], []⟩) (fun out s' => ∃ r, out = .done (.ret r) ∧ R r s') E s := by
  show wpAny _ _ (field (.ref z) 2 >>= _) _ _ s
  refine wpAny_bind (wpAny_field (x := .bool false) gz rfl rfl ?_); show wpAny _ _ (field (.ref z) 3 >>= _) _ _ s
  refine wpAny_bind (wpAny_field (x := .ref p) gz rfl rfl ?_); refine wpAny_bind (wpAny_seqItems gp rfl ?_)
  show wpAny _ _ (Builtin.SmallTypes.ownedTupleIsFree (.ref z) >>= _) _ _ s
  refine wpAny_bind ?_; unfold Builtin.SmallTypes.ownedTupleIsFree
  refine wpAny_bind (wpAny_field (x := .none) gz rfl rfl (wpAny_pure ?_)); simp only [if_true]
  refine wpAny_bind (wpAny_rule ?_); refine wpAny_bind (wpAny_field (x := .ref q) gz rfl rfl ?_)
  refine wpAny_bind (wpAny_setField_rec gz (by simp) fun ha gza sa => ?_)
  have gza' : IsZip ha z p q .ellipsis := gza
  refine wpAny_bind ?_; simp only [List.zipIdx_cons, List.zipIdx_nil, List.forIn_cons, List.forIn_nil]
  refine wpAny_bind (wpAny_bind (wpAny_onRaise ?_)); show wpAny _ _ (Builtin.SmallTypes.nextOf (.ref i1) >>= _) _ _ _
  refine wpAny_bind (one_item (g1.ext sa.extBut D.i1z) (gl1.ext sa.extBut D.l1z) ex fun hb g1b sb => wpAny_pure ?_)
  have gqb : IsPair hb q u v := sb.extBut _ _ D.TOi1 (sa.extBut _ _ D.TOz gq)
  refine wpAny_bind (wpAny_seqItems gqb rfl ?_); refine wpAny_bind (wpAny_updateSeq_pair gqb fun hc gqc sc => ?_)
  have gqc' : IsPair hc q x v := gqc
  refine wpAny_bind (wpAny_letGo (wpAny_pure ?_))
  refine wpAny_bind (wpAny_bind (wpAny_onRaise ?_)); show wpAny _ _ (Builtin.SmallTypes.nextOf (.ref i2) >>= _) _ _ _
  refine wpAny_bind (one_item (((g2.ext sa.extBut D.i2z).ext sb.extBut D.i12.symm).ext sc.extBut D.TOi2.symm) (((gl2.ext sa.extBut D.l2z).ext sb.extBut D.l2i1).ext sc.extBut D.l2TO) ey fun hd g2d sd => wpAny_pure ?_)
  have gqd : IsPair hd q x v := sd.extBut _ _ D.TOi2 gqc'
  refine wpAny_bind (wpAny_seqItems gqd rfl ?_); refine wpAny_bind (wpAny_updateSeq_pair gqd fun he gqe se => ?_)
  have gqe' : IsPair he q x y := gqe
  refine wpAny_bind (wpAny_letGo (wpAny_pure (wpAny_pure ?_))); refine wpAny_bind (wpAny_seqItems gqe' rfl ?_); refine wpAny_bind (wpAny_newTuple ?_)
  have esz : he.objs.size = s.heap.objs.size := by rw [se.1, sd.1, sc.1, sb.1, sa.1]
  have gze : IsZip he z p q .ellipsis := se.extBut _ _ D.TOz.symm (sd.extBut _ _ D.i2z.symm (sc.extBut _ _ D.TOz.symm (sb.extBut _ _ D.i1z.symm gza')))
  have keep : ∀ c o, c ≠ z → c ≠ q → c ≠ i1 → c ≠ i2 → s.heap.get? c = some o → he.get? c = some o := fun c o a1 a2 a3 a4 b => se.extBut _ _ a2 (sd.extBut _ _ a4 (sc.extBut _ _ a2 (sb.extBut _ _ a3 (sa.extBut _ _ a1 b))))
  have g1e : Itr k1 he i1 l1 (n1 + 1) := ((g1b.ext sc.extBut D.TOi1.symm).ext sd.extBut D.i12).ext se.extBut D.TOi1.symm
  have g2e : Itr k2 he i2 l2 (n2 + 1) := g2d.ext se.extBut D.TOi2.symm
  have zlt : z < he.objs.size := Heap.lt_size gze
  show wpAny _ _ (Builtin.SmallTypes.ownedTupleHandOut (.ref z) (.ref he.objs.size) >>= _) _ _ _
  refine wpAny_bind ?_; unfold Builtin.SmallTypes.ownedTupleHandOut
  have gzf : IsZip (he.push { cls := .type "tuple", data := .seq #[x, y] }) z p q .ellipsis := Heap.get?_push_of_some _ gze
  refine wpAny_bind (wpAny_setField_rec gzf (by simp) fun hg gzg sg => ?_)
  have gzg' : IsZip hg z p q (rawInt he.objs.size) := gzg
  refine wpAny_setField_rec gzg' (by simp) fun hk gzk sk => ?_
  have gzk' : IsZip hk z p q (rawInt he.objs.size) := gzk
  have up : ∀ c o, c ≠ z → he.get? c = some o → hk.get? c = some o := fun c o a1 b => sk.extBut _ _ a1 (sg.extBut _ _ a1 (Heap.get?_push_of_some _ b))
  have gT : IsPair hk he.objs.size x y := sk.extBut _ _ (Nat.ne_of_gt zlt) (sg.extBut _ _ (Nat.ne_of_gt zlt) (Heap.get?_push_size _ rfl))
  have ek : hk.objs.size = he.objs.size + 1 := by rw [sk.1, sg.1, Heap.size_push]
  rw [esz] at gzk' gT ek
  refine wpAny_pure ⟨_, rfl, ?_⟩; show R (.ref he.objs.size) _; rw [esz]
  exact fin hk gzk' (up _ _ D.TOz gqe') (g1e.to fun o b => up _ o D.i1z b) (g2e.to fun o b => up _ o D.i2z b) gT ek fun c o a1 a2 a3 a4 b => up c o a1 (keep c o a1 a2 a3 a4 b)
theorem turn_end {k1 k2 : Bool} {z p q i1 i2 l1 l2 : Addr} {n1 n2 : Nat} {xs ys : Array Value} {u v : Value} {R : Fin → Shared → Prop} (hh : A.handled = none) (D : ZipApart z p q i1 i2 l1 l2) (gz : IsZip s.heap z p q .none) (gp : IsPair s.heap p (.ref i1) (.ref i2)) (gq : IsPair s.heap q u v)
    (g1 : Itr k1 s.heap i1 l1 n1) (g2 : Itr k2 s.heap i2 l2 n2) (gl1 : Seqs k1 s.heap l1 xs) (gl2 : Seqs k2 s.heap l2 ys) (none' : xs[n1]? = none ∨ ys[n2]? = none)
    (fin : ∀ h' e, (∀ c o, c ≠ z → c ≠ q → c ≠ i1 → c ≠ i2 → s.heap.get? c = some o → h'.get? c = some o) → (∃ o, h'.get? e = some o ∧ o.cls = .type "StopIteration") → E (.ref e) { s with heap := h' }) :
    wpAny (model prog w) A (Builtin.«zip.__next__» ⟨[.ref z], []⟩) R E s := by
  show wpAny _ _ (field (.ref z) 2 >>= _) _ _ s
  refine wpAny_bind (wpAny_field (x := .bool false) gz rfl rfl ?_); show wpAny _ _ (field (.ref z) 3 >>= _) _ _ s
  refine wpAny_bind (wpAny_field (x := .ref p) gz rfl rfl ?_); refine wpAny_bind (wpAny_seqItems gp rfl ?_)
  show wpAny _ _ (Builtin.SmallTypes.ownedTupleIsFree (.ref z) >>= _) _ _ s
  refine wpAny_bind ?_; unfold Builtin.SmallTypes.ownedTupleIsFree
  refine wpAny_bind (wpAny_field (x := .none) gz rfl rfl (wpAny_pure ?_)); simp only [if_true]
  refine wpAny_bind (wpAny_rule ?_); refine wpAny_bind (wpAny_field (x := .ref q) gz rfl rfl ?_)
  refine wpAny_bind (wpAny_setField_rec gz (by simp) fun ha gza sa => ?_)
  have gza' : IsZip ha z p q .ellipsis := gza
  refine wpAny_bind ?_; simp only [List.zipIdx_cons, List.zipIdx_nil, List.forIn_cons, List.forIn_nil]
  refine wpAny_bind (wpAny_bind (wpAny_onRaise ?_)); show wpAny _ _ (Builtin.SmallTypes.nextOf (.ref i1) >>= _) _ _ _
  cases ex : xs[n1]? with
  | none =>
    refine wpAny_bind (one_end hh (g1.ext sa.extBut D.i1z) (gl1.ext sa.extBut D.l1z) ex fun hb e sb ⟨oe, e1, e2⟩ => ?_)
    have gzb : IsZip hb z p q .ellipsis := sb _ _ D.i1z.symm gza'
    have ne : e ≠ z := fun y => by subst y; rw [gzb] at e1; cases e1; simp at e2
    exact wpAny_setField_rec gzb (by simp) fun hc _ sc => fin hc e (fun c o a1 _ a3 _ b => sc.extBut _ _ a1 (sb _ _ a3 (sa.extBut _ _ a1 b))) ⟨oe, sc.extBut _ _ ne e1, e2⟩
  | some x =>
    have ey : ys[n2]? = none := none'.elim (fun y => by rw [ex] at y; cases y) id
    refine wpAny_bind (one_item (g1.ext sa.extBut D.i1z) (gl1.ext sa.extBut D.l1z) ex fun hb g1b sb => wpAny_pure ?_)
    have gqb : IsPair hb q u v := sb.extBut _ _ D.TOi1 (sa.extBut _ _ D.TOz gq)
    refine wpAny_bind (wpAny_seqItems gqb rfl ?_); refine wpAny_bind (wpAny_updateSeq_pair gqb fun hc gqc sc => ?_)
    refine wpAny_bind (wpAny_letGo (wpAny_pure ?_)); refine wpAny_bind (wpAny_bind (wpAny_onRaise ?_))
    show wpAny _ _ (Builtin.SmallTypes.nextOf (.ref i2) >>= _) _ _ _
    refine wpAny_bind (one_end hh (((g2.ext sa.extBut D.i2z).ext sb.extBut D.i12.symm).ext sc.extBut D.TOi2.symm) (((gl2.ext sa.extBut D.l2z).ext sb.extBut D.l2i1).ext sc.extBut D.l2TO) ey fun hd e sd ⟨oe, e1, e2⟩ => ?_)
    have gzd : IsZip hd z p q .ellipsis := sd _ _ D.i2z.symm (sc.extBut _ _ D.TOz.symm (sb.extBut _ _ D.i1z.symm gza'))
    have ne : e ≠ z := fun y => by subst y; rw [gzd] at e1; cases e1; simp at e2
    exact wpAny_setField_rec gzd (by simp) fun he _ se => fin he e (fun c o a1 a2 a3 a4 b => se.extBut _ _ a1 (sd _ _ a4 (sc.extBut _ _ a2 (sb.extBut _ _ a3 (sa.extBut _ _ a1 b))))) ⟨oe, se.extBut _ _ ne e1, e2⟩
theorem next_item {k1 k2 : Bool} {z p q i1 i2 l1 l2 : Addr} {n1 n2 : Nat} {xs ys : Array Value} {x y u v : Value} {R : Option Value → Shared → Prop} (D : ZipApart z p q i1 i2 l1 l2) (gz : IsZip s.heap z p q .none) (gp : IsPair s.heap p (.ref i1) (.ref i2)) (gq : IsPair s.heap q u v)
    (g1 : Itr k1 s.heap i1 l1 n1) (g2 : Itr k2 s.heap i2 l2 n2) (gl1 : Seqs k1 s.heap l1 xs) (gl2 : Seqs k2 s.heap l2 ys) (ex : xs[n1]? = some x) (ey : ys[n2]? = some y)
    (fin : ∀ h', IsZip h' z p q (rawInt s.heap.objs.size) → IsPair h' q x y → Itr k1 h' i1 l1 (n1 + 1) → Itr k2 h' i2 l2 (n2 + 1) → IsPair h' s.heap.objs.size x y → h'.objs.size = s.heap.objs.size + 1 → (∀ c o, c ≠ z → c ≠ q → c ≠ i1 → c ≠ i2 → s.heap.get? c = some o → h'.get? c = some o) → R (some (.ref s.heap.objs.size)) { s with heap := h' }) :
    wpAny (model prog w) A (pyNext (.ref z)) R E s := by
  have T : s.TypeIs (.ref z) "zip" := ⟨_, gz, rfl⟩
  unfold pyNext
  exact wpAny_bind (wpAny_attempt (wpAny_callSpecial?_slot (name := Str.ofString "__next__") T F.slot_zip_next (wpAny_call_entry F.slot_zip_next T F.entry_zip_next (turn_item D gz gp gq g1 g2 gl1 gl2 ex ey fun h' b1 b2 b3 b4 b5 b6 b7 => wpAny_pure (fin h' b1 b2 b3 b4 b5 b6 b7)) (F.args_zip_next_1 _))))
theorem next_end {k1 k2 : Bool} {z p q i1 i2 l1 l2 : Addr} {n1 n2 : Nat} {xs ys : Array Value} {u v : Value} {R : Option Value → Shared → Prop} (hh : A.handled = none) (D : ZipApart z p q i1 i2 l1 l2) (gz : IsZip s.heap z p q .none) (gp : IsPair s.heap p (.ref i1) (.ref i2)) (gq : IsPair s.heap q u v)
    (g1 : Itr k1 s.heap i1 l1 n1) (g2 : Itr k2 s.heap i2 l2 n2) (gl1 : Seqs k1 s.heap l1 xs) (gl2 : Seqs k2 s.heap l2 ys) (none' : xs[n1]? = none ∨ ys[n2]? = none)
    (fin : ∀ h', (∀ c o, c ≠ z → c ≠ q → c ≠ i1 → c ≠ i2 → s.heap.get? c = some o → h'.get? c = some o) → R none { s with heap := h' }) : wpAny (model prog w) A (pyNext (.ref z)) R E s := by
  have T : s.TypeIs (.ref z) "zip" := ⟨_, gz, rfl⟩
  unfold pyNext
  refine wpAny_bind (wpAny_attempt (wpAny_callSpecial?_slot (name := Str.ofString "__next__") T F.slot_zip_next (wpAny_call_entry F.slot_zip_next T F.entry_zip_next (turn_end hh D gz gp gq g1 g2 gl1 gl2 none' fun h' e hk ⟨o, e1, e2⟩ => ?_) (F.args_zip_next_1 _))))
  exact wpAny_bind (wpAny_isInstance (T := "StopIteration") (b := true) ⟨o, e1, e2⟩ isSubtype_stop (wpAny_pure (fin _ hk)))
end
/-! a new zip of a list and a tuple -/
abbrev nh1 (h : Heap) (a : Addr) : Heap := h.push { cls := .type "list_iterator", data := .fields #[.ref a, .int 0 0] }
abbrev nh2 (h : Heap) (a b : Addr) : Heap := (nh1 h a).push { cls := .type "tuple_iterator", data := .fields #[.ref b, .int 0 0] }
abbrev nh3 (h : Heap) (a b : Addr) : Heap := (nh2 h a b).push { cls := .type "tuple", data := .seq #[.ref h.objs.size, .ref (nh1 h a).objs.size] }
abbrev nh4 (h : Heap) (a b : Addr) : Heap := (nh3 h a b).push { cls := .type "tuple", data := .seq #[.none, .none] }
abbrev nh5 (h : Heap) (a b : Addr) : Heap := (nh4 h a b).push { cls := .type "zip", data := .fields #[.none, .bool false, .bool false, .ref (nh2 h a b).objs.size, .ref (nh3 h a b).objs.size] }
theorem meets_new (a b : Addr) (xs ys : Array Value) : Meets (Builtin.«zip.__new__» ⟨[.type "zip", .ref a, .ref b], []⟩) (fun _ R s => s.heap.IsList a xs ∧ s.heap.IsTuple b ys ∧ R (.ok (.ret (.ref (nh4 s.heap a b).objs.size))) { s with heap := nh5 s.heap a b }) :=
  .of_wp fun prog w A R s h => by
    obtain ⟨hp, g, d, tk, os⟩ := s; obtain ⟨ga, gb, h⟩ := h; have sz := sub_zip
    have La : Heap.IsList (Shared.heap ⟨hp, g, d, tk, os⟩) a xs := ga
    have Lb : Heap.IsTuple (Shared.heap ⟨hp.push { cls := .type "list_iterator", data := .fields #[.ref a, .int 0 0] }, g, d, tk, os⟩) b ys := Heap.IsTuple.push gb _
    wp_walk using wpAny_pyIter_list La, wpAny_pyIter_tuple Lb
    exact ⟨_, rfl, h⟩
theorem call_new {prog : Program} {w : World} {A : Around} {E : Value → Shared → Prop} {s : Shared} {a b : Addr} {xs ys : Array Value} {R : Value → Shared → Prop} (ga : s.heap.IsList a xs) (gb : s.heap.IsTuple b ys)
    (fin : ∀ h', IsZip h' (s.heap.objs.size + 4) (s.heap.objs.size + 2) (s.heap.objs.size + 3) .none → IsPair h' (s.heap.objs.size + 2) (.ref s.heap.objs.size) (.ref (s.heap.objs.size + 1)) → IsPair h' (s.heap.objs.size + 3) .none .none → Itr true h' s.heap.objs.size a 0 → Itr false h' (s.heap.objs.size + 1) b 0 →
      (∀ c o, s.heap.get? c = some o → h'.get? c = some o) → R (.ref (s.heap.objs.size + 4)) { s with heap := h' }) : wpAny (model prog w) A (call (.type "zip") [.ref a, .ref b]) R E s := by
  refine callType_new F.called_zip (by decide) (F.typeCall_zip_2 _ _) (F.newCall_zip_2 _ _) (fun z => F.args_object_init_3 z _ _) F.entry_zip_new (meets_new a b xs ys) ⟨ga, gb, ?_⟩
  have n1 : (nh1 s.heap a).objs.size = s.heap.objs.size + 1 := Heap.size_push ..
  have n2 : (nh2 s.heap a b).objs.size = s.heap.objs.size + 2 := by rw [Heap.size_push, n1]
  have n3 : (nh3 s.heap a b).objs.size = s.heap.objs.size + 3 := by rw [Heap.size_push, n2]
  have n4 : (nh4 s.heap a b).objs.size = s.heap.objs.size + 4 := by rw [Heap.size_push, n3]
  have at5 : (nh5 s.heap a b).get? (nh4 s.heap a b).objs.size = some _ := Heap.get?_push_size _ rfl
  have at4 : (nh5 s.heap a b).get? (nh3 s.heap a b).objs.size = some _ := Heap.get?_push_of_some _ (Heap.get?_push_size _ rfl)
  have at3 : (nh5 s.heap a b).get? (nh2 s.heap a b).objs.size = some _ := Heap.get?_push_of_some _ (Heap.get?_push_of_some _ (Heap.get?_push_size _ rfl))
  have at2 : (nh5 s.heap a b).get? (nh1 s.heap a).objs.size = some _ := Heap.get?_push_of_some _ (Heap.get?_push_of_some _ (Heap.get?_push_of_some _ (Heap.get?_push_size _ rfl)))
  have at1 : (nh5 s.heap a b).get? s.heap.objs.size = some _ := Heap.get?_push_of_some _ (Heap.get?_push_of_some _ (Heap.get?_push_of_some _ (Heap.get?_push_of_some _ (Heap.get?_push_size _ rfl))))
  show _ ∧ _
  rw [n2, n3, n4] at at5
  rw [n1, n2] at at3
  rw [n3] at at4
  rw [n1] at at2
  rw [n4]
  exact ⟨⟨_, at5, rfl⟩, fin _ at5 at3 at4 ⟨_, at1, rfl, rfl⟩ ⟨_, at2, rfl, rfl⟩ fun c o y => Heap.get?_push_of_some _ (Heap.get?_push_of_some _ (Heap.get?_push_of_some _ (Heap.get?_push_of_some _ (Heap.get?_push_of_some _ y))))⟩
/-- the list at a and the tuple at b, side by side -/
def Side (K : PySem.W.Frag) (k : Bool) (H : Hp) (a : Addr) (xs : List V) : Prop := match k with
  | true => SqL K H a xs
  | false => SqT K H a xs
def ItM (K : PySem.W.Frag) (a b : Addr) : It :=
  ⟨fun i H => ∃ (xs ys : List V) (x y : V), SqL K H a xs ∧ SqT K H b ys ∧ xs[i]? = some x ∧ ys[i]? = some y,
    fun i H v H' => ∃ T x y, v = .ref T ∧ H T = none ∧ H' = upd H T (.tup [x, y]) ∧ (∀ xs, SqL K H a xs → xs[i]? = some x) ∧ ∀ ys, SqT K H b ys → ys[i]? = some y,
    fun i H => ∃ xs ys : List V, SqL K H a xs ∧ SqT K H b ys ∧ (xs.length ≤ i ∨ ys.length ≤ i)⟩
theorem among {z p q i1 i2 c : Addr} (h : c ∈ [z, p, q, i1, i2]) : c = z ∨ c = p ∨ c = q ∨ c = i1 ∨ c = i2 := by simpa using h
theorem turn {P : Program} {w : World} {K : PySem.W.Frag} {elts : List Expr} {kk : Nat} {tpos : Pos} {a b z p q i1 i2 : Addr} (D : ZipApart z p q i1 i2 a b) :
    Turn P w K (.Tuple elts kk tpos) (ItM K a b) [z, p, q, i1, i2] z (fun i h => IsZip h z p q .none ∧ IsPair h p (.ref i1) (.ref i2) ∧ (∃ x y, IsPair h q x y) ∧ Itr true h i1 a i ∧ Itr false h i2 b i) where
  mem := by simp
  obj := fun i h ⟨gz, gp, ⟨x, y, gq⟩, g1, g2⟩ c hc => by
    rcases among hc with e | e | e | e | e
    · rw [e]; exact ⟨_, gz, fun v n => nomatch n⟩
    · rw [e]; exact ⟨_, gp, fun v n => nomatch n⟩
    · rw [e]; exact ⟨_, gq, fun v n => nomatch n⟩
    · obtain ⟨o, e1, vs, d⟩ := g1.obj
      exact ⟨o, e ▸ e1, fun v n => by rw [d] at n; cases n⟩
    · obtain ⟨o, e1, vs, d⟩ := g2.obj
      exact ⟨o, e ▸ e1, fun v n => by rw [d] at n; cases n⟩
  keep := fun i h h' ⟨gz, gp, ⟨x, y, gq⟩, g1, g2⟩ k => ⟨k z (by simp) _ gz, k p (by simp) _ gp, ⟨x, y, k q (by simp) _ gq⟩, g1.to fun o n => k i1 (by simp) o n, g2.to fun o n => k i2 (by simp) o n⟩
  item := by
    intro X eP ew eK hc i pins s σ H E I hf ⟨gz, gp, ⟨x0, y0, gq⟩, g1, g2⟩ ⟨xs, ys, x, y, sx, sy, ex, ey⟩
    subst eP ew eK
    obtain ⟨us, r1, p1, _⟩ := I.list sx
    obtain ⟨ws, r2, p2, _⟩ := I.tuple sy
    obtain ⟨u, hu, ru⟩ := r1.get ex
    obtain ⟨u2, hu2, ru2⟩ := r2.get ey
    have zl : z < s.heap.objs.size := Heap.lt_size gz
    refine next_item (k1 := true) (k2 := false) D gz gp gq g1 g2 p1.isList p2 (x := u) (y := u2) (by simpa using hu) (by simpa using hu2) fun h' z' q' g1' g2' gT hsz hk => ?_
    refine ⟨_, rfl, wpAny_letOwnedTupleGo_zip (s := { s with heap := h' }) z' fun h2 z2 sb => ?_⟩
    have gT2 : h2.get? s.heap.objs.size = some { cls := .type "tuple", data := .seq #[u, u2] } := (sb.2 _ (Nat.ne_of_gt zl)).trans gT
    have nw : ObjOk X.prog X.w (upd H s.heap.objs.size (.tup [x, y])) h2 s.heap.objs.size (.tup [x, y]) := ⟨by show 2 ≤ sizeLine; decide, [u, u2], .cons ru (.cons ru2 .nil), ⟨_, gT2, rfl, _, rfl⟩⟩
    have I1 : Inv X pins σ (upd H s.heap.objs.size (.tup [x, y])) { s with heap := h2 } :=
      I.turnedNew (ch := [z, p, q, i1, i2]) (t' := s.toks) (fun c o hb n => (sb.2 c (fun m => hb (by simp [m]))).trans (hk c o (fun m => hb (by simp [m])) (fun m => hb (by simp [m])) (fun m => hb (by simp [m])) (fun m => hb (by simp [m])) n)) hf (Nat.le_refl _) nw
    refine ⟨.ref s.heap.objs.size, _, I1, rfl, ⟨_, x, y, rfl, I.hok.fresh (Nat.le_refl _), rfl, fun l hl => by rw [I.list_inj hl sx]; exact ex, fun l hl => by rw [I.tuple_inj hl sy]; exact ey⟩, ⟨z2, (sb.2 _ D.TIz).trans (hk _ _ D.TIz D.TITO D.TIi1 D.TIi2 gp), ⟨u, u2, (sb.2 _ D.TOz).trans q'⟩, g1'.to fun o n => (sb.2 _ D.i1z).trans n, g2'.to fun o n => (sb.2 _ D.i2z).trans n⟩, fun c hcm => ?_⟩
    have lt : c < s.heap.objs.size := by
      rcases among hcm with e | e | e | e | e
      · exact e ▸ zl
      · exact e ▸ Heap.lt_size gp
      · exact e ▸ Heap.lt_size gq
      · obtain ⟨o, e1, _⟩ := g1.obj
        exact e ▸ Heap.lt_size e1
      · obtain ⟨o, e1, _⟩ := g2.obj
        exact e ▸ Heap.lt_size e1
    rw [upd_ne (Nat.ne_of_lt lt)]; exact (hf c hcm).1
  done := by
    intro X eP ew eK hc i pins s σ H E I hf ⟨gz, gp, ⟨x0, y0, gq⟩, g1, g2⟩ ⟨xs, ys, sx, sy, en⟩
    subst eP ew eK
    obtain ⟨us, r1, p1, _⟩ := I.list sx
    obtain ⟨ws, r2, p2, _⟩ := I.tuple sy
    have e1 := r1.length
    have e2 := r2.length
    have hn : us.toArray[i]? = none ∨ ws.toArray[i]? = none := en.elim (fun n => .inl (by simp; omega)) fun n => .inr (by simp; omega)
    exact next_end (k1 := true) (k2 := false) (I.ok.hd hc) D gz gp gq g1 g2 p1.isList p2 hn fun h' hk => ⟨rfl, I.turnedL (ch := [z, p, q, i1, i2]) (t' := s.toks) (fun c o hb n => hk c o (fun m => hb (by simp [m])) (fun m => hb (by simp [m])) (fun m => hb (by simp [m])) (fun m => hb (by simp [m])) n) hf⟩
  self := fun A i s Q E st h => wpAny_pyIter_zip st.1 h
def iM (K : PySem.W.Frag) (ta : TA) : TI := fun σ H R => ta σ H fun vs H1 => ∃ a b xs ys, vs = [.ref a, .ref b] ∧ SqL K H1 a xs ∧ SqT K H1 b ys ∧ R (ItM K a b) H1
theorem pi_zipM {X : Cx} {e f : Expr} {ta : TA} {p pos tpos : Pos} {elts : List Expr} {kk : Nat} (hg : Gl X "zip") (hm : X.mg "zip" = none) (ha : PA X [e, f] ta) (h1 : starEach [e, f] X.env = (false, eval e X.env) :: starEach [f] X.env) (h2 : (backTo pos (starEach [f] X.env)).any (·.1) = false) :
    PI X (.Tuple elts kk tpos) (.Call (.Name "zip" p) [e, f] [] pos) (iM X.K ta) := by
  refine ⟨fun pins s σ H R I h => Call_ (ld_blt I hg hm PyProof.Rows.boot_zip (PyProof.Rows.callWith_type1 (thn (ha.run pos pins s σ H _ I h) fun us s1 ⟨vs, H1, I1, r1, a, b, xs, ys, ex, sx, sy, k⟩ => ?_) h1 h2))⟩
  subst ex
  cases r1 with
  | cons r rr =>
    cases rr with
    | cons r' rr =>
      cases rr; cases r; cases r'
      have fr5 : ∀ c, c ∈ [s1.heap.objs.size + 4, s1.heap.objs.size + 2, s1.heap.objs.size + 3, s1.heap.objs.size, s1.heap.objs.size + 1] → FpOk X pins H1 c := fun c hc => by
        have le : s1.heap.objs.size ≤ c := by rcases among hc with e | e | e | e | e <;> rw [e] <;> first | exact Nat.le_add_right _ _ | exact Nat.le_refl _
        exact I1.fpOk le (I1.hok.fresh le)
      obtain ⟨us, w1, p1, _⟩ := I1.list sx
      obtain ⟨ws, w2, p2, _⟩ := I1.tuple sy
      obtain ⟨ob, hob, _⟩ := id p2
      refine call_new p1.isList p2 fun h' gz gp gq g1 g2 hk => wpAny_pyIter_zip gz ?_
      exact ⟨s1.heap.objs.size + 4, [s1.heap.objs.size + 4, s1.heap.objs.size + 2, s1.heap.objs.size + 3, s1.heap.objs.size, s1.heap.objs.size + 1], _, _, H1, rfl, I1.kept (t' := s1.toks) hk, turn (PySem.W.ktu_apart s1.heap.objs.size a b p1.lt (Heap.lt_size hob)), ⟨gz, gp, ⟨_, _, gq⟩, g1, g2⟩, fr5, k⟩
end ZM
namespace AL
open PySem PySem.Spec L2
open PyProof.Rows hiding St
theorem wi_zipM {P : Program} {w : World} {K : PySem.W.Frag} {mg : Str → Option Value} {base : Heap} {N : List Str} {sc : Scope} {df : Bool} {k : Nat} {X : Cx} {ρ : Rho} {m : Mem} {pos p tpos : Pos} {c d : Expr} {elts : List Expr} {kk : Nat} {Ki : List AV → Mem → Prop} (a : At P w K mg base N sc df k X)
    (hg : sc.names.lookup ("zip" : Str) = some .globalImplicit) (hm : mg ("zip" : Str) = none) (h : WE X c ρ m fun A m1 => WE X d ρ m1 fun B m2 => ∃ As Bs, A = lst As ∧ B = tup Bs ∧ Ki (pairA As Bs) m2)
    (hs : starEach [c, d] X.env = [(false, eval c X.env), (false, eval d X.env)]) (hs2 : starEach [d] X.env = [(false, eval d X.env)]) (hpl : (backTo pos (starEach [d] X.env)).any (·.1) = false) : WI X (.Tuple elts kk tpos) (.Call (.Name "zip" p) [c, d] [] pos) ρ m Ki := by
  intro fr σ H o R g
  refine le_I (ZM.pi_zipM (gl_of a hg) (by rw [a.mt]; exact hm) (pa_cons wpE_pe (pa_cons wpE_pe pa_nil (by rw [hs2]; rfl)) (by rw [hs, hs2])) (by rw [hs, hs2]) hpl) ?_
  refine h.to o fun A m1 v H1 h1 x1 o1 r1 => h1.to o1 fun B m2 u H2 ⟨As, Bs, ea, eb, q⟩ x2 o2 r2 => ?_
  have r1' := A.st r1 x2
  subst ea eb
  obtain ⟨p1, xs, rfl, t1, ra⟩ := r1'
  obtain ⟨p2, ys, rfl, t2, rb⟩ := r2
  refine ⟨p1, p2, xs, ys, rfl, t1.sq, t2.sq, g _ m2 _ H2 q (x1.trans x2) o2 ?_⟩
  have hl : (pairA As Bs).length = min xs.length ys.length := by rw [pairA_len, ra.length, rb.length]
  refine ⟨fun i M H3 hi xt => ?_, fun M H3 xt => ?_, fun i M H3 y H4 hi xt hM hy => ?_⟩
  · rw [hl] at hi
    exact ⟨xs, ys, xs[i]'(by omega), ys[i]'(by omega), (t1.st xt).sq, (t2.st xt).sq, by simp, by simp⟩
  · rw [hl]; exact ⟨xs, ys, (t1.st xt).sq, (t2.st xt).sq, by omega⟩
  · obtain ⟨T, x, z, e1, e2, e3, e4, e5⟩ := hy
    subst e1 e3
    exact ⟨.inr ⟨T, _, e2, rfl⟩, pair_yld ra rb xt e2 hM (e4 _ (t1.st xt).sq) (e5 _ (t2.st xt).sq)⟩
end AL
namespace EV
open PySem PySem.Spec L2 AL
open PyProof.Rows hiding St
theorem absPs_range {Z : Cls} {lo : Int} {n : Nat} : absPs Z (rangeP lo n) = rangeA lo n := by
  rw [absPs_map]
  unfold rangeP rangeA
  rw [List.map_map]
  apply List.map_congr_left
  intro i _
  simp [absP]
theorem absPs_pair {Z : Cls} : ∀ {l r : List PV}, absPs Z (pairP l r) = pairA (absPs Z l) (absPs Z r)
  | [], r => by cases r <;> simp [pairP, absPs, pairA]
  | a :: l, [] => by simp [pairP, absPs, pairA]
  | a :: l, b :: r => by
    rw [pairP, absPs, absPs, absPs, absPs_pair, absP, absPs, absPs, absPs]
    rfl
theorem enumP_pair : ∀ {l : List PV} {i : Nat}, enumP i l = pairP ((List.range' i l.length).map fun (j : Nat) => .int (j : Nat)) l
  | [], i => by simp [enumP, pairP]
  | a :: l, i => by
    rw [enumP, enumP_pair, List.length_cons, List.range'_succ, List.map_cons, pairP]
theorem absPs_enum {Z : Cls} {l : List PV} : absPs Z (enumP 0 l) = enumA (absPs Z l) := by
  rw [enumP_pair, absPs_pair]
  unfold enumA
  rw [absPs_len, absPs_map, List.map_map, ← List.range_eq_range']
  congr 1
def OkJ (G : Gx) (N : List Str) (sc : Scope) (df : Bool) (it : CI) (tg iter : Expr) : Prop :=
  ∀ X, G.At N sc df X → ∀ ρc ow items, evJ G.T it ρc ow = some items → ∀ mo qs ρ, qs.length = ow.length → RepE G.Z mo qs ρc ρ → WI X tg iter ρ (mo ++ memW G.Z qs ow) fun Is m' => Is = absPs G.Z items ∧ m' = mo ++ memW G.Z qs ow
/-- what a step lays: nothing, a pair, a pair in a pair -/
def Yl (H H' : Hp) : Prop := (H' = H ∨ ∃ T o, H T = none ∧ H' = upd H T o) ∨ ∃ P o T u, H P = none ∧ upd H P o T = none ∧ H' = upd (upd H P o) T u
theorem ofYl {K : PySem.W.Frag} {m : Mem} {fr : Frm} {H H' : Hp} (o : MemV K fr m H) (h : Yl H H') : MemV K fr m H' ∧ Ext (Ms fr m) H (Ms fr m) H' := by
  rcases h with h | ⟨P, u, T, v, hP, hT, rfl⟩
  · exact o.ofYld h
  · obtain ⟨o1, x1⟩ := o.ofYld (.inr ⟨P, u, hP, rfl⟩)
    obtain ⟨o2, x2⟩ := o1.ofYld (.inr ⟨T, v, hT, rfl⟩)
    exact ⟨o2, x1.trans x2⟩
/-- an iterator, while the memory stays as it is -/
def IterX (K : PySem.W.Frag) (J : It) (M0 : List Addr) (H0 : Hp) (m : Mem) (Is : List AV) : Prop :=
  ∀ fr H, Ext M0 H0 (Ms fr m) H → MemV K fr m H → (∀ i, i < Is.length → J.go i H ∧ ∀ x H', J.yld i H x H' → Yl H H' ∧ ∀ A, Is[i]? = some A → A.p K (Ms fr m) H' x) ∧ J.stop Is.length H
def OkI (G : Gx) (N : List Str) (sc : Scope) (df : Bool) (it : CI) (tg iter : Expr) : Prop :=
  ∀ X, G.At N sc df X → ∀ ρc ow items, evI G.T it ρc ow = some items → ∀ mo qs ρ, qs.length = ow.length → RepE G.Z mo qs ρc ρ → ∀ fr σ H, Holds X.K fr ρ (mo ++ memW G.Z qs ow) σ H → ∀ R : It → Hp → Prop,
    (∀ J H', Ext (Ms fr (mo ++ memW G.Z qs ow)) H (Ms fr (mo ++ memW G.Z qs ow)) H' → Holds X.K fr ρ (mo ++ memW G.Z qs ow) σ H' → IterX X.K J (Ms fr (mo ++ memW G.Z qs ow)) H' (mo ++ memW G.Z qs ow) (absPs G.Z items) → R J H') → wpI X tg iter σ H R
theorem IterOk.x {K : PySem.W.Frag} {J : It} {M0 : List Addr} {H0 : Hp} {m : Mem} {Is : List AV} (h : IterOk K J M0 H0 Is) : IterX K J M0 H0 m Is := fun fr H x mv =>
  ⟨fun i hi => ⟨h.go i _ _ hi x, fun y H' hy => (h.yld i _ _ y H' hi x (fun b hb => mv.has hb) hy).imp .inl id⟩, h.stop _ _ x⟩
theorem WI.okI {X : Cx} {tg iter : Expr} {ρ : Rho} {m : Mem} {As : List AV} (h : WI X tg iter ρ m fun Is m' => Is = As ∧ m' = m) {fr : Frm} {σ : St} {H : Hp} (o : Holds X.K fr ρ m σ H) {R : It → Hp → Prop}
    (q : ∀ J H', Ext (Ms fr m) H (Ms fr m) H' → Holds X.K fr ρ m σ H' → IterX X.K J (Ms fr m) H' m As → R J H') : wpI X tg iter σ H R :=
  h fr σ H o R fun Is m' J H' ⟨e1, e2⟩ x o' it => by
    subst e1 e2
    exact q J H' x o' (IterOk.x it)
section
variable {G : Gx} {N : List Str} {sc : Scope} {df : Bool} {pos p tpos : Pos} {e f tg : Expr} {c a b : CE} {es : List Expr} (B : Blt G.mg)
theorem okJ_ex (ha : OkE G N sc df a e) : OkJ G N sc df (.ex a) tg e := fun X at_ ρc ow items h mo qs ρ hl hr => by
  simp only [evJ] at h
  split at h
  · rename_i l hx
    cases h
    exact wi_list ((ha X at_ _ _ _ hx _ _ _ hl hr).to fun A hA => ⟨_, isL hA, rfl, rfl⟩)
  · rename_i l hx
    cases h
    exact wi_tup ((ha X at_ _ _ _ hx _ _ _ hl hr).to fun A hA => ⟨_, isT hA, rfl, rfl⟩)
  · cases h
theorem inRange_ok {i : Int} (h : inRange i = true) : -(2 ^ 62) ≤ i ∧ i < 2 ^ 62 := by
  unfold inRange at h
  rw [Bool.and_eq_true] at h
  exact ⟨of_decide_eq_true h.1, of_decide_eq_true h.2⟩
include B in
theorem wi_rng1 (hg : sc.names.lookup ("range" : Str) = some .globalImplicit) (hs : notStar e = true) (ha : OkE G N sc df a e) {X : Cx} (at_ : G.At N sc df X) {ρc : Ev} {ow : Own} {items : List PV} (h : evI G.T (.rng1 a) ρc ow = some items) {mo : Mem} {qs : List Addr} {ρ : Rho} (hl : qs.length = ow.length) (hr : RepE G.Z mo qs ρc ρ) :
    WI X tg (.Call (.Name "range" p) [e] [] pos) ρ (mo ++ memW G.Z qs ow) fun Is m' => Is = absPs G.Z items ∧ m' = mo ++ memW G.Z qs ow := by
  simp only [evI] at h
  split at h
  · rename_i j hx
    split at h
    · rename_i hj
      cases h
      exact wi_range1 at_ hg B.range ((ha X at_ _ _ _ hx _ _ _ hl hr).to fun A hA => ⟨j, isI hA, inRange_ok hj, absPs_range.symm, rfl⟩) (star1 hs _ _)
    · cases h
  · cases h
include B in
theorem wi_rng2 (hg : sc.names.lookup ("range" : Str) = some .globalImplicit) (hs : notStar e = true) (ht : notStar f = true) (ha : OkE G N sc df a e) (hb : OkE G N sc df b f) {X : Cx} (at_ : G.At N sc df X) {ρc : Ev} {ow : Own} {items : List PV} (h : evI G.T (.rng2 a b) ρc ow = some items) {mo : Mem} {qs : List Addr} {ρ : Rho} (hl : qs.length = ow.length) (hr : RepE G.Z mo qs ρc ρ) :
    WI X tg (.Call (.Name "range" p) [e, f] [] pos) ρ (mo ++ memW G.Z qs ow) fun Is m' => Is = absPs G.Z items ∧ m' = mo ++ memW G.Z qs ow := by
  simp only [evI] at h
  split at h
  · rename_i i hx
    split at h
    · rename_i j hy
      split at h
      · rename_i hj
        cases h
        rw [Bool.and_eq_true] at hj
        exact wi_range2 at_ hg B.range ((ha X at_ _ _ _ hx _ _ _ hl hr).to fun A hA => (hb X at_ _ _ _ hy _ _ _ hl hr).to fun C hC => ⟨i, j, isI hA, isI hC, ⟨(inRange_ok hj.1).1, (inRange_ok hj.1).2, (inRange_ok hj.2).1, (inRange_ok hj.2).2⟩, absPs_range.symm, rfl⟩) (by rw [star1 hs, star1 ht]; rfl) (by first | exact star1 ht _ _ | exact star_none (by simp [ht]) _ _)
      · cases h
    · cases h
  · cases h
def downA (lo : Int) (n : Nat) : List AV := (List.range n).map fun (i : Nat) => AL.int (lo + (i : Int) * -1)
theorem absPs_down {Z : Cls} {lo : Int} {n : Nat} : absPs Z (downP lo n) = downA lo n := by
  rw [absPs_map]
  unfold downP downA
  rw [List.map_map]
  apply List.map_congr_left
  intro i _
  simp [absP]
theorem iter_down {K : PySem.W.Frag} {lo : Int} {n : Nat} {M0 : List Addr} {H0 : Hp} : IterOk K (Itc lo (-1) n) M0 H0 (downA lo n) := by
  have hl : (downA lo n).length = n := by simp [downA]
  refine ⟨fun i M H hi _ => by rw [hl] at hi; exact hi, fun M H _ => by rw [hl]; exact Nat.le_refl _, fun i M H x H' hi _ _ hy => ?_⟩
  obtain ⟨e1, e2⟩ := hy
  refine ⟨.inl e1, fun A hA => ?_⟩
  rw [hl] at hi
  have e3 : A = AL.int (lo + (i : Int) * -1) := by
    unfold downA at hA
    rw [List.getElem?_map, List.getElem?_range hi] at hA
    exact (Option.some.inj hA).symm
  subst e3
  exact e2
include B in
theorem wi_rngD {kk : Nat} {p5 p6 : Pos} (hg : sc.names.lookup ("range" : Str) = some .globalImplicit) (hs : notStar e = true) (ht : notStar f = true) (ha : OkE G N sc df a e) (hb : OkE G N sc df b f) {X : Cx} (at_ : G.At N sc df X) {ρc : Ev} {ow : Own} {items : List PV} (h : evI G.T (.rngD a b) ρc ow = some items) {mo : Mem} {qs : List Addr} {ρ : Rho} (hl : qs.length = ow.length) (hr : RepE G.Z mo qs ρc ρ) :
    WI X tg (.Call (.Name "range" p) [e, f, .UnaryOp .USub (.Constant (.int 1) kk p5) p6] [] pos) ρ (mo ++ memW G.Z qs ow) fun Is m' => Is = absPs G.Z items ∧ m' = mo ++ memW G.Z qs ow := by
  simp only [evI] at h
  split at h
  · rename_i i hx
    split at h
    · rename_i j hy
      split at h
      · rename_i hj
        cases h
        rw [Bool.and_eq_true] at hj
        intro fr σ H o R g
        have s3 : starEach [Expr.UnaryOp .USub (.Constant (.int 1) kk p5) p6] X.env = (false, eval (Expr.UnaryOp .USub (.Constant (.int 1) kk p5) p6) X.env) :: starEach [] X.env := star1 rfl _ _
        have s2 : starEach [f, Expr.UnaryOp .USub (.Constant (.int 1) kk p5) p6] X.env = (false, eval f X.env) :: starEach [Expr.UnaryOp .USub (.Constant (.int 1) kk p5) p6] X.env := star1 ht _ _
        have s1 : starEach [e, f, Expr.UnaryOp .USub (.Constant (.int 1) kk p5) p6] X.env = (false, eval e X.env) :: starEach [f, Expr.UnaryOp .USub (.Constant (.int 1) kk p5) p6] X.env := star1 hs _ _
        refine le_I (pi_range3 (gl_of at_ hg) (by rw [at_.mt]; exact B.range) (pa_cons wpE_pe (pa_cons wpE_pe (pa_cons (pe_un un_neg pe_int) pa_nil s3) s2) s1) s1 (star_none (by rw [List.all_cons, ht]; rfl) _ _)) ?_
        refine (ha X at_ _ _ _ hx _ _ _ hl hr).to (Kt := fun A m' => RepC G.Z mo qs (.p (.int i)) A ∧ m' = mo ++ memW G.Z qs ow) (fun A hA => ⟨hA, rfl⟩) fr σ H o _ fun A m1 v H1 ⟨hA, em⟩ x1 o1 r1 => ?_
        subst em
        refine (hb X at_ _ _ _ hy _ _ _ hl hr).to (Kt := fun A m' => RepC G.Z mo qs (.p (.int j)) A ∧ m' = mo ++ memW G.Z qs ow) (fun A hA => ⟨hA, rfl⟩) fr σ H1 o1 _ fun C m2 u H2 ⟨hC, em⟩ x2 o2 r2 => ?_
        subst em
        rw [isI hA] at r1
        rw [isI hC] at r2
        refine ⟨1, rfl, i, j, -1, (i - j).toNat, by rw [show v = V.int i from r1, show u = V.int j from r2], RgC.neg (inRange_ok hj.1).1 (inRange_ok hj.1).2 (inRange_ok hj.2).1 (inRange_ok hj.2).2, ?_⟩
        exact g _ _ _ H2 ⟨absPs_down.symm, rfl⟩ (x1.trans x2) o2 iter_down
      · cases h
    · cases h
  · cases h
include B in
theorem wi_zipE {elts : List Expr} {kk} (hg : sc.names.lookup ("zip" : Str) = some .globalImplicit) (hs : notStar e = true) (ht : notStar f = true) (ha : OkE G N sc df a e) (hb : OkE G N sc df b f) {X : Cx} (at_ : G.At N sc df X) {ρc : Ev} {ow : Own} {items : List PV} (h : evI G.T (.zip a b) ρc ow = some items) {mo : Mem} {qs : List Addr} {ρ : Rho} (hl : qs.length = ow.length) (hr : RepE G.Z mo qs ρc ρ) :
    WI X (.Tuple elts kk tpos) (.Call (.Name "zip" p) [e, f] [] pos) ρ (mo ++ memW G.Z qs ow) fun Is m' => Is = absPs G.Z items ∧ m' = mo ++ memW G.Z qs ow := by
  simp only [evI] at h
  split at h
  · cases h
  · rename_i x hx
    split at h
    · cases h
    · rename_i y hy
      split at h
      · cases h
        exact wi_zip at_ hg B.zip ((ha X at_ _ _ _ hx _ _ _ hl hr).to fun A hA => (hb X at_ _ _ _ hy _ _ _ hl hr).to fun C hC => ⟨_, _, .inl ⟨isL hA, isL hC⟩, absPs_pair.symm, rfl⟩) (by rw [star1 hs, star1 ht]; rfl) (star1 ht _ _) (star_none (by simp [ht]) _ _)
      · cases h
        exact wi_zip at_ hg B.zip ((ha X at_ _ _ _ hx _ _ _ hl hr).to fun A hA => (hb X at_ _ _ _ hy _ _ _ hl hr).to fun C hC => ⟨_, _, .inr ⟨isT hA, isT hC⟩, absPs_pair.symm, rfl⟩) (by rw [star1 hs, star1 ht]; rfl) (star1 ht _ _) (star_none (by simp [ht]) _ _)
      · cases h
        exact wi_zipM at_ hg B.zip ((ha X at_ _ _ _ hx _ _ _ hl hr).to fun A hA => (hb X at_ _ _ _ hy _ _ _ hl hr).to fun C hC => ⟨_, _, isL hA, isT hC, absPs_pair.symm, rfl⟩) (by rw [star1 hs, star1 ht]; rfl) (star1 ht _ _) (star_none (by simp [ht]) _ _)
      · cases h
theorem okJ_enum {elts : List Expr} {kk} (hg : sc.names.lookup ("enumerate" : Str) = some .globalImplicit) (hm : G.mg ("enumerate" : Str) = none) (hs : notStar e = true) (ha : OkE G N sc df a e) : OkJ G N sc df (.enum a) (.Tuple elts kk tpos) (.Call (.Name "enumerate" p) [e] [] pos) := fun X at_ ρc ow items h mo qs ρ hl hr => by
  simp only [evJ] at h
  split at h
  · rename_i l hx
    cases h
    exact wi_enum at_ hg hm ((ha X at_ _ _ _ hx _ _ _ hl hr).to fun A hA => ⟨_, isL hA, absPs_enum.symm, rfl⟩) (star1 hs _ _)
  · rename_i l hx
    cases h
    exact wi_enumT at_ hg hm ((ha X at_ _ _ _ hx _ _ _ hl hr).to fun A hA => ⟨_, isT hA, absPs_enum.symm, rfl⟩) (star1 hs _ _)
  · cases h
/-! ### comprehensions walk over lists that may change elsewhere -/
theorem okI_ex (ha : OkE G N sc df a e) : OkI G N sc df (.ex a) tg e := fun X at_ ρc ow items h mo qs ρ hl hr fr σ H o R q => by
  simp only [evI] at h
  split at h
  · cases h
  · rename_i x hx
    have go : asL ow x = some items → wpI X tg e σ H R := fun hL => by
      refine le_I (pi_list wpE_pe) ?_
      refine (ha X at_ _ _ _ hx _ _ _ hl hr).to (Kt := fun A m' => RepC G.Z mo qs x A ∧ m' = mo ++ memW G.Z qs ow) (fun A hA => ⟨hA, rfl⟩) fr σ H o _ fun A m' v H' ⟨hA, em⟩ x1 o1 r1 => ?_
      subst em
      obtain ⟨p, vs, rfl, hp, rv⟩ := hA.ls hL _ _ _ _ o1.mem r1
      refine ⟨p, rfl, ⟨vs, .inl (.inl hp)⟩, q _ H' x1 o1 fun fr2 H2 x2 mv => ?_⟩
      have r2 := A.st r1 x2
      obtain ⟨p', vs2, e2, hp2, rv2⟩ := hA.ls hL _ _ _ _ mv r2
      cases e2
      refine ⟨fun i hi => ⟨?_, fun y H3 hy => ?_⟩, vs2, .inl (.inl hp2), by rw [rv2.length]; exact Nat.le_refl _⟩
      · rw [rv2.length] at hi
        exact ⟨vs2, vs2[i], .inl (.inl hp2), by simp [hi]⟩
      · obtain ⟨e1, e3⟩ := hy
        subst e1
        have h5 := e3 vs2 (.inl (.inl hp2))
        refine ⟨.inl (.inl rfl), fun C hC => ?_⟩
        obtain ⟨u, h6, h7⟩ := rv2.get hC
        rw [h5] at h6
        cases h6
        exact h7
    rcases x with w | n | l
    · cases w with
      | tup l => simp only [asS, Option.some.injEq] at h; subst h; exact WI.okI (wi_tup ((ha X at_ _ _ _ hx _ _ _ hl hr).to fun A hA => ⟨_, isT hA, rfl, rfl⟩)) o q
      | lst l => exact go h
      | _ => simp [asS] at h
    · exact go h
    · exact go h
theorem okI_enum {elts : List Expr} {kk} (hg : sc.names.lookup ("enumerate" : Str) = some .globalImplicit) (hm : G.mg ("enumerate" : Str) = none) (hs : notStar e = true) (ha : OkE G N sc df a e) : OkI G N sc df (.enum a) (.Tuple elts kk tpos) (.Call (.Name "enumerate" p) [e] [] pos) := fun X at_ ρc ow items h mo qs ρ hl hr fr σ H o R q => by
  simp only [evI] at h
  split at h
  · cases h
  · rename_i x hx
    split at h
    · rename_i l
      cases h
      exact WI.okI (wi_enumT at_ hg hm ((ha X at_ _ _ _ hx _ _ _ hl hr).to fun A hA => ⟨_, isT hA, absPs_enum.symm, rfl⟩) (star1 hs _ _)) o q
    split at h
    · rename_i l hL
      cases h
      have s1 := star1 hs [] X.env
      refine le_I (pi_enum (gl_of at_ hg) (by rw [at_.mt]; exact hm) (pa_cons wpE_pe pa_nil s1) s1) ?_
      refine (ha X at_ _ _ _ hx _ _ _ hl hr).to (Kt := fun A m' => RepC G.Z mo qs x A ∧ m' = mo ++ memW G.Z qs ow) (fun A hA => ⟨hA, rfl⟩) fr σ H o _ fun A m' v H' ⟨hA, em⟩ x1 o1 r1 => ?_
      subst em
      obtain ⟨p, vs, rfl, hp, rv⟩ := hA.ls hL _ _ _ _ o1.mem r1
      refine ⟨p, vs, rfl, .inl (.inl hp), q _ H' x1 o1 fun fr2 H2 x2 mv => ?_⟩
      have r2 := A.st r1 x2
      obtain ⟨p', vs2, e2, hp2, rv2⟩ := hA.ls hL _ _ _ _ mv r2
      cases e2
      have w := walk_enum (K := X.K) (a := p) (xs := vs2)
      have hn : (absPs G.Z (enumP 0 l)).length = vs2.length := by
        rw [absPs_enum]
        unfold enumA
        rw [pairA_len, List.length_map, List.length_range, rv2.length]
        omega
      refine ⟨fun i hi => ⟨w.goes i H2 (by rw [hn] at hi; exact hi) (.inl (.inl hp2)), fun y H3 hy => ?_⟩, by rw [hn]; exact w.stops H2 (.inl (.inl hp2))⟩
      rw [hn] at hi
      obtain ⟨T, y1, z, e1, e3, e4, e5, e6⟩ := w.yields i H2 y H3 hi (.inl (.inl hp2)) hy
      subst e1 e4
      have ri : AllV X.K (Ms fr2 (mo ++ memW G.Z qs ow)) H2 ((List.range (absPs G.Z l).length).map fun (i : Nat) => AL.int (i : Int)) ((List.range (absPs G.Z l).length).map fun (i : Nat) => V.int (i : Int)) := by
        generalize List.range (absPs G.Z l).length = l2
        induction l2 with
        | nil => exact .nil
        | cons z l2 ih => exact .cons rfl ih
      have e5' : V.int (i : Nat) = y1 := Option.some.inj e5
      rw [absPs_enum]
      exact ⟨.inl (.inr ⟨T, _, e3, rfl⟩), pair_yld ri rv2 (.refl _ _) e3 (fun b hb => mv.has hb) (by rw [← e5', rv2.length]; simp [hi]) e6⟩
    · cases h
end
end EV
namespace EV
open PySem PySem.Spec L2 AL
open PyProof.Rows hiding St
theorem lcGo_app {f : PV → Option (Option PV)} : ∀ {l r us : List PV}, lcGo f (l ++ r) = some us → ∃ u1 u2, lcGo f l = some u1 ∧ lcGo f r = some u2 ∧ us = u1 ++ u2
  | [], r, us, h => ⟨[], us, rfl, h, rfl⟩
  | v :: l, r, us, h => by
    rw [List.cons_append] at h
    simp only [lcGo] at h ⊢
    split at h
    · cases h
    · obtain ⟨u1, u2, h1, h2, h3⟩ := lcGo_app h
      exact ⟨u1, u2, h1, h2, h3⟩
    · rename_i u hu
      split at h
      · rename_i l' hl
        cases h
        obtain ⟨u1, u2, h1, h2, h3⟩ := lcGo_app hl
        subst h3
        rw [h1]
        exact ⟨u :: u1, u2, rfl, h2, rfl⟩
      · cases h
theorem lcGo_step {f : PV → Option (Option PV)} {items us : List PV} {i : Nat} {v : PV} (h : lcGo f items = some us) (hi : items[i]? = some v) :
    ∃ u1 o, lcGo f (items.take i) = some u1 ∧ f v = some o ∧ lcGo f (items.take (i + 1)) = some (u1 ++ o.toList) := by
  have e : items.take (i + 1) = items.take i ++ [v] := by rw [List.take_add_one, hi]; rfl
  have h2 : lcGo f (items.take (i + 1) ++ items.drop (i + 1)) = some us := by rw [List.take_append_drop]; exact h
  obtain ⟨w1, w2, h3, _, _⟩ := lcGo_app h2
  have h4 := h3
  rw [e] at h4
  obtain ⟨u1, u2, h5, h6, h7⟩ := lcGo_app h4
  simp only [lcGo] at h6
  split at h6
  · cases h6
  · rename_i hf
    cases h6
    exact ⟨u1, none, h5, hf, by rw [h3, h7]; rfl⟩
  · rename_i u hf
    cases h6
    exact ⟨u1, some u, h5, hf, by rw [h3, h7]; rfl⟩
section
variable {X : Cx} {ρ : Rho} {m : Mem} {Z : Cls} {σ : St}
theorem lc_coreP {scope : Scope} {elt : Expr} {tgt : PV → Rho → Rho} {g : TG} {js : List Nat} {fr : Frm} {J : It} {H1 : Hp} {items us : List PV} {f : PV → Option (Option PV)} {Q : VK} {D : Addr} {tt : TT}
    (hg : ∀ (v : PV) (x : V) (frx : Frm) (H2 : Hp) (R : St → Hp → Prop), (∃ o, f v = some o) → (absP Z v).p X.K (Ms frx m) H2 x → EnvV X.K (Ms frx m) H2 (wipeR ρ js) (wipe σ js) → (∀ σ2, wipe σ2 js = wipe σ js → EnvV X.K (Ms frx m) H2 (tgt v (wipeR ρ js)) σ2 → R σ2 H2) → g x (wipe σ js) H2 R)
    (o1 : Holds X.K fr ρ m σ H1) (it : IterX X.K J (Ms fr m) H1 m (absPs Z items)) (hD : H1 D = none) (hlen : items.length ≤ 1000) (hgo : lcGo f items = some us)
    (ht : ∀ (v : PV) (o : Option PV) (frx : Frm) (σ2 : St) (H2 : Hp) (Q : Bool → Hp → Prop), f v = some o → Holds X.K frx (tgt v (wipeR ρ js)) m σ2 H2 → (∀ H3, Ext (Ms frx m) H2 (Ms frx m) H3 → Holds X.K frx (tgt v (wipeR ρ js)) m σ2 H3 → Q o.isSome H3) → tt σ2 H2 Q)
    (he : ∀ (v u : PV) X', BlkOf X scope X' → f v = some (some u) → Gives X' elt (tgt v (wipeR ρ js)) m fun A => A = absP Z u)
    (fin : ∀ xs H', Ext (Ms fr m) H1 (Ms ((D, .lst xs) :: fr) m) H' → Holds X.K ((D, .lst xs) :: fr) ρ m σ H' → AllV X.K (Ms ((D, .lst xs) :: fr) m) H' (absPs Z us) xs → Q (.ref D) H') :
    ∃ W : Nat → Nat → Hp → Prop, (∃ n, W 0 n (upd H1 D (.lst []))) ∧ ∀ i n H, W i n H →
      (J.stop i H ∧ Q (.ref D) H) ∨ (J.go i H ∧ ∃ Nx : Hp → Prop, (∀ H', Nx H' → ∃ n', n' < n ∧ W (i + 1) n' H') ∧ ∀ x H', J.yld i H x H' → g x (wipe σ js) H' fun σ2 H2 => wipe σ2 js = wipe σ js ∧ tt σ2 H2 fun b H3 =>
        if b = true then teBlk X scope elt σ2 H3 fun y H4 => ∃ acc, H4 D = some (.lst acc) ∧ acc.length < sizeLine ∧ Nx (upd H4 D (.lst (acc ++ [y]))) else Nx H3) := by
  let S : Nat → Hp → Prop := fun i H => i ≤ items.length ∧ ∃ acc xs, lcGo f (items.take i) = some acc ∧ Ext (Ms fr m) H1 (Ms ((D, .lst xs) :: fr) m) H ∧ MemV X.K ((D, .lst xs) :: fr) m H ∧ EnvV X.K (Ms ((D, .lst xs) :: fr) m) H ρ σ ∧ AllV X.K (Ms ((D, .lst xs) :: fr) m) H (absPs Z acc) xs ∧ xs.length ≤ i
  refine ⟨fun i n H => n = items.length - i ∧ S i H, ⟨_, rfl, Nat.zero_le _, [], [], rfl, .push hD, o1.mem.push hD, o1.env.st (.push hD), by rw [absPs]; exact .nil, Nat.le_refl _⟩, ?_⟩
  rintro i n H ⟨rfl, hi, acc, xs, hacc, x, mv, ev, rv, hxl⟩
  obtain ⟨itg, its⟩ := it _ H x mv
  by_cases hlt : i < items.length
  · have hA : items[i]? = some items[i] := by simp [hlt]
    obtain ⟨u1, o, h5, h6, h7⟩ := lcGo_step hgo hA
    rw [h5] at hacc
    obtain rfl : u1 = acc := Option.some.inj hacc
    obtain ⟨ig, iy⟩ := itg i (by rw [absPs_len]; exact hlt)
    refine .inr ⟨ig, S (i + 1), fun H' hN => ⟨items.length - (i + 1), by omega, rfl, hN⟩, fun y H2 hy => ?_⟩
    obtain ⟨hh, hv⟩ := iy y H2 hy
    obtain ⟨mv2, x2⟩ := ofYl mv hh
    have hv' := hv (absP Z items[i]) (by rw [absPs_map, List.getElem?_map, hA]; rfl)
    refine hg items[i] y _ H2 _ ⟨o, h6⟩ hv' ((ev.st x2).wipe js) fun σ2 hs e2 => ⟨hs, ?_⟩
    refine ht items[i] o _ σ2 H2 _ h6 ⟨e2, mv2⟩ fun H3 x3 o3 => ?_
    cases o with
    | none =>
      rw [if_neg (by decide)]
      have x5 := x2.trans x3
      refine ⟨hlt, u1, xs, by rw [h7]; simp, x.trans x5, o3.mem, ev.st x5, rv.st x5, by omega⟩
    | some u =>
      rw [if_pos (by rfl : (some u).isSome = true)]
      intro X2 hX2
      have o3' : Holds X2.K ((D, .lst xs) :: fr) (tgt items[i] (wipeR ρ js)) m σ2 H3 := ⟨by rw [hX2.kt]; exact o3.env, by rw [hX2.kt]; exact o3.mem⟩
      refine he items[i] u X2 hX2 h6 (fun A m' => A = absP Z u ∧ m' = m) (fun A hA => ⟨hA, rfl⟩) _ σ2 H3 o3' _ fun B m4 yv H4 ⟨hB, em⟩ x4 o4 r4 => ?_
      subst em hB
      rw [hX2.kt] at o4 r4
      have hD4 : H4 D = some (.lst xs) := o4.mem.frm _ _ List.mem_cons_self
      refine ⟨xs, hD4, Nat.le_of_lt_succ (Nat.lt_succ_of_lt (small1000 (by omega))), ?_⟩
      have x5 : Ext (Ms ((D, .lst xs) :: fr) m4) H (Ms ((D, .lst (xs ++ [yv])) :: fr) m4) (upd H4 D (.lst (xs ++ [yv]))) := ((x2.trans x3).trans x4).trans .re
      refine ⟨hlt, u1 ++ [u], xs ++ [yv], by rw [h7]; rfl, x.trans x5, o4.mem.re, ev.st x5, ?_, by rw [List.length_append]; show xs.length + 1 ≤ _; omega⟩
      rw [absPs_app, absPs, absPs]
      exact (rv.st x5).append (.cons ((absP Z u).st r4 .re) .nil)
  · have ei : i = items.length := by omega
    subst ei
    rw [List.take_length, hgo] at hacc
    cases hacc
    refine .inl ⟨by have := its; rw [absPs_len] at this; exact this, ?_⟩
    exact fin xs H x ⟨ev, mv⟩ rv
end
/-! ### targets -/
theorem wipe_eq : ∀ (js : List Nat) (σ σ' : St), σ.length = σ'.length → (∀ i, i ∉ js → σ[i]? = σ'[i]?) → wipe σ js = wipe σ' js := by
  intro js σ σ' hl h
  apply List.ext_getElem?
  intro i
  have key : ∀ (js : List Nat) (σ : St), (wipe σ js)[i]? = if i ∈ js then (σ[i]?).map (fun _ => none) else σ[i]? := by
    intro js σ
    induction js with
    | nil => simp [wipe]
    | cons j js ih =>
      simp only [wipe]
      rw [List.getElem?_set, wipe_length]
      by_cases e : j = i
      · subst e
        rw [if_pos rfl, if_pos List.mem_cons_self]
        by_cases hlt : j < σ.length
        · rw [if_pos hlt, List.getElem?_eq_getElem hlt]; rfl
        · rw [if_neg hlt, List.getElem?_eq_none (by omega)]; rfl
      · rw [if_neg e, ih]
        have : (i ∈ j :: js) ↔ i ∈ js := ⟨fun z => (List.mem_cons.mp z).elim (fun y => absurd y.symm e) id, List.mem_cons_of_mem _⟩
        simp only [this]
  rw [key, key]
  by_cases hm : i ∈ js
  · rw [if_pos hm, if_pos hm]
    by_cases hlt : i < σ.length
    · rw [List.getElem?_eq_getElem hlt, List.getElem?_eq_getElem (by omega)]; rfl
    · rw [List.getElem?_eq_none (by omega), List.getElem?_eq_none (by omega)]
  · rw [if_neg hm, if_neg hm, h i hm]
def setVs (σ : St) : List Nat → List V → St
  | j :: js, v :: vs => setVs (σ.set j (some v)) js vs
  | _, _ => σ
theorem setVs_len : ∀ (js : List Nat) (vs : List V) (σ : St), (setVs σ js vs).length = σ.length
  | [], _, _ => by simp [setVs]
  | _ :: _, [], _ => by simp [setVs]
  | j :: js, v :: vs, σ => by rw [setVs, setVs_len, List.length_set]
theorem setVs_out : ∀ (js : List Nat) (vs : List V) (σ : St) (i : Nat), i ∉ js → (setVs σ js vs)[i]? = σ[i]?
  | [], _, _, _, _ => by simp [setVs]
  | _ :: _, [], _, _, _ => by simp [setVs]
  | j :: js, v :: vs, σ, i, h => by
    rw [setVs, setVs_out js vs _ i (fun z => h (List.mem_cons_of_mem _ z)), List.getElem?_set_ne]
    intro e
    exact h (by rw [e]; exact List.mem_cons_self)
theorem wipe_setVs {js : List Nat} {vs : List V} {σ : St} : wipe (setVs (wipe σ js) js vs) js = wipe σ js := by
  refine wipe_eq js _ _ (by rw [setVs_len, wipe_length]) fun i hi => ?_
  rw [setVs_out js vs _ i hi]
  have : ∀ (js : List Nat) (σ : St), i ∉ js → (wipe σ js)[i]? = σ[i]? := by
    intro js
    induction js with
    | nil => intro σ _; rfl
    | cons j js ih =>
      intro σ hi
      simp only [wipe]
      rw [List.getElem?_set_ne (fun e => hi (by rw [e]; exact List.mem_cons_self)), ih σ (fun z => hi (List.mem_cons_of_mem _ z))]
  exact this js σ hi
theorem names_run2 {K : PySem.W.Frag} {M : List Addr} : ∀ (js : List Nat) (As : List AV) (vs : List V) (ρ : Rho) (σ : St) (H : Hp) (Q : St → Hp → Prop), js.length = As.length → EnvV K M H ρ σ → AllV K M H As vs →
    (EnvV K M H (setAll ρ (js.zip As)) (setVs σ js vs) → Q (setVs σ js vs) H) → js.foldr (fun j t => gCons (gName j) t) gNil vs σ H Q
  | [], [], [], ρ, σ, H, Q, _, o, .nil, g => ⟨rfl, g o⟩
  | j :: js, A :: As, v :: vs, ρ, σ, H, Q, hl, o, .cons r t, g => ⟨v, vs, rfl, names_run2 js As vs _ _ H Q (by simpa using hl) (o.set r j) t g⟩
  | [], _ :: _, _, _, _, _, _, hl, _, _, _ => by simp at hl
  | _ :: _, [], _, _, _, _, _, hl, _, _, _ => by simp at hl
/-- what a target makes of the names -/
def tgtA (Z : Cls) (js : List Nat) (v : PV) (r : Rho) : Rho := match js with
  | [j] => r.set j (some (absP Z v))
  | js => match v with
    | .tup vs => setAll r (js.zip (absPs Z vs))
    | _ => r
theorem RepE.setAll {Z : Cls} {mo : Mem} {qs : List Addr} : ∀ {js : List Nat} {vs : List PV} {ρc ρc' : Ev} {ρ : Rho}, setAllE ρc js vs = some ρc' → RepE Z mo qs ρc ρ → RepE Z mo qs ρc' (setAll ρ (js.zip (absPs Z vs)))
  | [], [], _, _, _, h, r => by simp only [setAllE, Option.some.injEq] at h; subst h; exact r
  | j :: js, v :: vs, ρc, ρc', ρ, h, r => by
    simp only [setAllE] at h
    rw [absPs, List.zip_cons_cons]
    exact RepE.setAll h (r.set (.p v) j)
  | [], _ :: _, _, _, _, h, _ => by simp [setAllE] at h
  | _ :: _, [], _, _, _, h, _ => by simp [setAllE] at h
theorem setAllE_len : ∀ {js : List Nat} {vs : List PV} {ρc ρc' : Ev}, setAllE ρc js vs = some ρc' → js.length = vs.length
  | [], [], _, _, _ => rfl
  | j :: js, v :: vs, ρc, ρc', h => by
    simp only [setAllE] at h
    simp [setAllE_len h]
  | [], _ :: _, _, _, h => by simp [setAllE] at h
  | _ :: _, [], _, _, h => by simp [setAllE] at h
theorem RepE.bind {Z : Cls} {mo : Mem} {qs : List Addr} {js : List Nat} {v : PV} {ρc ρc' : Ev} {ρ : Rho} (h : bindE ρc js v = some ρc') (r : RepE Z mo qs ρc ρ) : RepE Z mo qs ρc' (tgtA Z js v ρ) := by
  unfold bindE at h
  unfold tgtA
  split at h
  · cases h
    exact r.set (.p v) _
  · rename_i js' hne
    split at h
    · rename_i vs
      have := RepE.setAll h r
      first
        | exact this
        | (split
           · exact absurd rfl (hne _)
           · exact this)
    · cases h
theorem bindE_form {js : List Nat} {v : PV} {ρc ρc' : Ev} (h : bindE ρc js v = some ρc') : (∃ j, js = [j]) ∨ ((∀ j, js ≠ [j]) ∧ ∃ vs, v = .tup vs ∧ js.length = vs.length) := by
  unfold bindE at h
  split at h
  · exact .inl ⟨_, rfl⟩
  · rename_i js' hne
    split at h
    · exact .inr ⟨fun j e => hne j e, _, rfl, setAllE_len h⟩
    · cases h
end EV
namespace EV
open PySem PySem.Spec L2 AL
open PyProof.Rows hiding St
theorem assignEach_names (env : Env) : ∀ jl : List (Nat × Str × Pos), (assignEach (jl.map fun j => Expr.Name j.2.1 j.2.2) env).length = jl.length ∧ (assignEach (jl.map fun j => Expr.Name j.2.1 j.2.2) env).findIdx? (·.1) = none
  | [] => ⟨rfl, rfl⟩
  | j :: jl => by
    obtain ⟨h1, h2⟩ := assignEach_names env jl
    have e : assignEach ((j :: jl).map fun j => Expr.Name j.2.1 j.2.2) env = (false, assign (.Name j.2.1 j.2.2) env) :: assignEach (jl.map fun j => Expr.Name j.2.1 j.2.2) env := rfl
    rw [e]
    refine ⟨by rw [List.length_cons, h1]; rfl, ?_⟩
    rw [List.findIdx?_cons]
    simp [h2]
inductive TgtOk (N : List Str) (sc : Scope) (df : Bool) : List Nat → Expr → List (Str × Nat) → Prop
  | one (j : Nat) (nm : Str) (p : Pos) (h : N[j]? = some nm) (hl : sc.names.lookup nm = some .local ∨ (df = true ∧ sc.names.lookup nm = some .cell)) : TgtOk N sc df [j] (.Name nm p) [(nm, j)]
  | tup (jl : List (Nat × Str × Pos)) (kk : Nat) (tp : Pos) (hne : ∀ j, jl.map (·.1) ≠ [j]) (h : ∀ x ∈ jl, N[x.1]? = some x.2.1 ∧ (sc.names.lookup x.2.1 = some .local ∨ (df = true ∧ sc.names.lookup x.2.1 = some .cell))) :
    TgtOk N sc df (jl.map (·.1)) (.Tuple (jl.map fun j => .Name j.2.1 j.2.2) kk tp) (jl.map fun x => (x.2.1, x.1))
theorem relS_at {G : Gx} {N : List Str} {sc scope : Scope} {df : Bool} {X X' : Cx} (at_ : G.At N sc df X) (h : BlkOf X scope X') : G.At N (relS scope sc) false X' := h.at_ at_
section
variable {G : Gx} {N : List Str} {sc : Scope} {df : Bool} {pos tpos : Pos} {e f tg elt iter : Expr} {c a b : CE} {it : CI} {js : List Nat} {own : List (Str × Nat)} {scope : Scope}
theorem relS_cell {sc scope : Scope} {x : Str} (h : scope.names.lookup x = some .local ∨ scope.names.lookup x = some .cell) (h2 : (relS scope sc).names.lookup x = some .cell) : scope.names.lookup x = some .cell := by
  rcases h with h | h
  · exfalso
    have key : ∀ l : List (Str × NameKind), l.lookup x = some .local → (l.map fun (n, k) => if (k == .free && sc.kind == .function && sc.names.lookup n == some .cell) then (n, NameKind.cell) else (n, k)).lookup x = some .local := by
      intro l
      induction l with
      | nil => intro h; cases h
      | cons p l ih =>
        obtain ⟨n, k⟩ := p
        intro h
        rw [List.lookup_cons] at h
        rw [List.map_cons]
        cases e : x == n with
        | true =>
          rw [e] at h
          cases h
          have e2 : (NameKind.local == NameKind.free) = false := by decide
          simp only [e2, Bool.false_and]
          rw [List.lookup_cons]
          simp [e]
        | false =>
          rw [e] at h
          show List.lookup x ((if (k == .free && sc.kind == .function && sc.names.lookup n == some .cell) = true then (n, NameKind.cell) else (n, k)) :: _) = _
          by_cases c : (k == .free && sc.kind == .function && sc.names.lookup n == some .cell) = true
          · rw [if_pos c, List.lookup_cons, e]; exact ih h
          · rw [if_neg c, List.lookup_cons, e]; exact ih h
    have h3 : (relS scope sc).names.lookup x = some .local := key _ h
    rw [h3] at h2
    cases h2
  · exact h
theorem pgn_blk {G : Gx} {N : List Str} {sc scope : Scope} {df : Bool} {X : Cx} (at_ : G.At N sc df X) {s : Shared} {H : Hp} {cl : List (Str × Addr)} {C : Addr} {fp : List Addr} (j : Nat) {nm : Str} {p : Pos} (hN : N[j]? = some nm) (hl : (relS scope sc).names.lookup nm = some .local ∨ (true = true ∧ (relS scope sc).names.lookup nm = some .cell)) (hc : scope.names.lookup nm = some .local ∨ scope.names.lookup nm = some .cell) :
    PG (X.blk s H scope (compEnvC scope cl C X.env) fp) (.Name nm p) (gName j) := by
  rcases hl with hl | hl
  · exact pgn (blk_at at_) j hN (.inl hl)
  · refine pg_name (by show X.N.Nodup; rw [at_.nm]; exact at_.nd) (by show X.N[j]? = _; rw [at_.nm]; exact hN) ?_ (.inl ?_)
    · unfold L2.Loc
      right
      show (relS scope X.env.scope).names.lookup nm = _
      rw [at_.sce]
      exact hl.2
    · show (scope.names.lookup nm == some .cell) = true
      rw [relS_cell hc hl.2]
      rfl
theorem pgs_blk {G : Gx} {N : List Str} {sc scope : Scope} {df : Bool} {X : Cx} (at_ : G.At N sc df X) {s : Shared} {H : Hp} {cl : List (Str × Addr)} {C : Addr} {fp : List Addr} : ∀ (js : List (Nat × Str × Pos)), (∀ j ∈ js, N[j.1]? = some j.2.1 ∧ ((relS scope sc).names.lookup j.2.1 = some .local ∨ (true = true ∧ (relS scope sc).names.lookup j.2.1 = some .cell))) → (∀ j ∈ js, scope.names.lookup j.2.1 = some .local ∨ scope.names.lookup j.2.1 = some .cell) →
    PGs (X.blk s H scope (compEnvC scope cl C X.env) fp) (js.map fun j => .Name j.2.1 j.2.2) (js.foldr (fun j t => gCons (gName j.1) t) gNil)
  | [], _, _ => pgs_nil
  | j :: js, h, hc => pgs_cons (pgn_blk at_ j.1 (h j List.mem_cons_self).1 (h j List.mem_cons_self).2 (hc j List.mem_cons_self)) (pgs_blk at_ js (fun z hz => h z (List.mem_cons_of_mem _ hz)) fun z hz => hc z (List.mem_cons_of_mem _ hz))
/-- the names of a target are the comprehension's own -/
def CellOk (scope : Scope) (own : List (Str × Nat)) : Prop := ∀ p ∈ own, scope.names.lookup p.1 = some .local ∨ scope.names.lookup p.1 = some .cell
/-- the target of a comprehension -/
theorem tgt_lc (hT : TgtOk N (relS scope sc) true js tg own) (hC : CellOk scope own) {X : Cx} (at_ : G.At N sc df X) {ρ : Rho} {m : Mem} {σ : St} {fv : PV → Option (Option PV)} (hf : ∀ v o, fv v = some o → (∃ j, js = [j]) ∨ ((∀ j, js ≠ [j]) ∧ ∃ vs, v = .tup vs ∧ js.length = vs.length)) :
    ∃ g : TG, (∀ (s : Shared) (H : Hp) (C : Addr) (cl : List (Str × Addr)) (fp : List Addr), PG (X.blk s H scope (compEnvC scope cl C X.env) fp) tg g) ∧ own.map (·.2) = js ∧
      ∀ (v : PV) (x : V) (frx : Frm) (H2 : Hp) (R : St → Hp → Prop), (∃ o, fv v = some o) → (absP G.Z v).p X.K (Ms frx m) H2 x → EnvV X.K (Ms frx m) H2 (wipeR ρ js) (wipe σ js) → (∀ σ2, wipe σ2 js = wipe σ js → EnvV X.K (Ms frx m) H2 (tgtA G.Z js v (wipeR ρ js)) σ2 → R σ2 H2) → g x (wipe σ js) H2 R := by
  cases hT with
  | one j nm p h hl =>
    refine ⟨gName j, fun s H C cl fp => pgn_blk at_ j h hl (hC _ List.mem_cons_self), rfl, fun v x frx H2 R _ hx ev k => k _ wipe1 (ev.set hx j)⟩
  | tup jl kk tp hne h =>
    refine ⟨gTup X.K jl.length (jl.foldr (fun j t => gCons (gName j.1) t) gNil), fun s H C cl fp => ?_, by rw [List.map_map]; rfl, fun v x frx H2 R ⟨o, ho⟩ hx ev k => ?_⟩
    · exact pg_tup (blk_at at_).calm (pgs_blk at_ jl h fun z hz => hC _ (List.mem_map.mpr ⟨z, hz, rfl⟩)) (assignEach_names _ jl).1 (assignEach_names _ jl).2
    · rcases hf v o ho with ⟨j, ej⟩ | ⟨_, vs, rfl, hlen⟩
      · exact absurd ej (hne j)
      · rw [absP] at hx
        obtain ⟨p, xs, rfl, hp, hr⟩ := hx
        have hl := hr.length
        rw [absPs_len] at hl
        rw [List.length_map] at hlen
        refine ⟨p, xs, rfl, hp.sq, by omega, ?_⟩
        have q := names_run2 (jl.map (·.1)) (absPs G.Z vs) xs (wipeR ρ (jl.map (·.1))) (wipe σ (jl.map (·.1))) H2 R (by rw [List.length_map, absPs_len]; exact hlen) ev hr fun e2 => k _ wipe_setVs (by
          unfold tgtA
          split
          · rename_i j ej; exact absurd ej (hne j)
          · exact e2)
        rw [List.foldr_map] at q
        exact q
theorem lcI_form {fe : Ev → Option CV} {ρ : Ev} {v : PV} {o : Option PV} (h : lcI js ρ fe v = some o) : ∃ ρ' u, bindE (wipeE ρ js) js v = some ρ' ∧ fe ρ' = some (.p u) ∧ o = some u := by
  unfold lcI at h
  split at h
  · cases h
  · rename_i ρ' hb
    split at h
    · rename_i u hu
      cases h
      exact ⟨ρ', u, hb, hu, rfl⟩
    · cases h
theorem lcIf_form {w : Own} {fc fe : Ev → Option CV} {ρ : Ev} {v : PV} {o : Option PV} (h : lcIf w js ρ fc fe v = some o) : ∃ ρ' x, bindE (wipeE ρ js) js v = some ρ' ∧ fc ρ' = some x ∧ truth w x = some o.isSome ∧ ∀ u, o = some u → fe ρ' = some (.p u) := by
  unfold lcIf at h
  split at h
  · cases h
  · rename_i ρ' hb
    split at h
    · cases h
    · rename_i x hx
      split at h
      · cases h
      · rename_i ht
        cases h
        exact ⟨ρ', x, hb, hx, ht, fun u hu => by cases hu⟩
      · rename_i ht
        split at h
        · rename_i u hu
          cases h
          exact ⟨ρ', x, hb, hx, ht, fun u' hu' => by cases hu'; exact hu⟩
        · cases h
theorem lcFin_form {items : List PV} {fv : PV → Option (Option PV)} {v : CV} (h : lcFin items fv = some v) : ∃ us, items.length ≤ 1000 ∧ lcGo fv items = some us ∧ v = .p (.lst us) := by
  unfold lcFin at h
  split at h
  · rename_i hs
    split at h
    · rename_i us hu
      cases h
      exact ⟨us, of_decide_eq_true hs, hu, rfl⟩
    · cases h
  · cases h
/-- what a comprehension makes: told for the two rules (a value; name = ..) -/
structure LcRun (X : Cx) (N : List Str) (sc scope : Scope) (elt tg iter : Expr) (ifs : List Expr) (pos : Pos) (ρ : Rho) (m : Mem) (As : List AV) : Prop where
  we : ∀ Kl : KL, Kl As m → WN X (.ListComp elt [⟨tg, iter, ifs, 0⟩] scope pos) ρ m Kl
  set : ∀ {i : Nat} {y : Str} {py spos : Pos} {D0 : Ends} {fr : Frm} {σ : St} {H : Hp}, Holds X.K fr ρ m σ H → sc.kind = .function → N[i]? = some y → sc.names.lookup y = some .local → (py.line == pos.line) = true → (scope.names.any fun (n, k) => n == y && (k == .local || k == .cell)) = false →
    (∀ D xs H', Ext (Ms fr m) H (Ms ((D, .lst xs) :: fr) m) H' → Holds X.K ((D, .lst xs) :: fr) ρ m σ H' → AllV X.K (Ms ((D, .lst xs) :: fr) m) H' As xs → D0.nx (σ.set i (some (.ref D))) H') → wpS X (.Assign [.Name y py] (.ListComp elt [⟨tg, iter, ifs, 0⟩] scope pos) spos) D0 σ H
theorem lc_gen {ifs : List Expr} {tt : TT} {fv : PV → Option (Option PV)} {items us : List PV} {ρ : Rho} {m : Mem} {X : Cx} (at_ : G.At N sc df X) (hT : TgtOk N (relS scope sc) true js tg own) (hC0 : CellOk scope own) (hok : blkC N sc scope own = true) (hns : ∀ env x, foldedSetIterable iter env x = pure x)
    (hI : ∀ fr σ H, Holds X.K fr ρ m σ H → ∀ R : It → Hp → Prop, (∀ J H', Ext (Ms fr m) H (Ms fr m) H' → Holds X.K fr ρ m σ H' → IterX X.K J (Ms fr m) H' m (absPs G.Z items) → R J H') → wpI X tg iter σ H R)
    (hlen : items.length ≤ 1000) (hgo : lcGo fv items = some us) (hf : ∀ v o, fv v = some o → (∃ j, js = [j]) ∨ ((∀ j, js ≠ [j]) ∧ ∃ vs, v = .tup vs ∧ js.length = vs.length))
    (hts : ∀ (s : Shared) (H : Hp) (C : Addr) (cl : List (Str × Addr)) (fp : List Addr), PTs (X.blk s H scope (compEnvC scope cl C X.env) fp) ifs tt)
    (hht : ∀ (v : PV) (o : Option PV) (frx : Frm) (σ2 : St) (H2 : Hp) (Q : Bool → Hp → Prop), fv v = some o → Holds X.K frx (tgtA G.Z js v (wipeR ρ js)) m σ2 H2 → (∀ H3, Ext (Ms frx m) H2 (Ms frx m) H3 → Holds X.K frx (tgtA G.Z js v (wipeR ρ js)) m σ2 H3 → Q o.isSome H3) → tt σ2 H2 Q)
    (hhe : ∀ (v u : PV) X', BlkOf X scope X' → fv v = some (some u) → Gives X' elt (tgtA G.Z js v (wipeR ρ js)) m fun A => A = absP G.Z u) : LcRun X N sc scope elt tg iter ifs pos ρ m (absPs G.Z us) := by
  refine ⟨fun Kl q fr σ H o Q gQ => ?_, fun {i y py spos D0 fr σ H} o hk hN hyl hln hany fin => ?_⟩
  · obtain ⟨g, hPG, hown, hg⟩ := tgt_lc (ρ := ρ) (m := m) (σ := σ) (fv := fv) hT hC0 at_ hf
    subst hown
    refine le_E (pe_lc (own := own) (g := g) (tt := tt) at_.calm (by rw [at_.nm]; exact at_.nd) wpI_pi (blkOk_by (by rw [at_.nm, at_.sce]; exact hok)) hPG hts teBlk_pe (hns _)) ?_
    refine hI fr σ H o _ fun J H1 x1 o1 itx D hD => ?_
    exact lc_coreP (scope := scope) (elt := elt) (tt := tt) hg o1 itx hD hlen hgo hht hhe fun xs H' x2 o2 rv => gQ _ _ D xs H' q (x1.trans x2) o2 rv
  · obtain ⟨g, hPG, hown, hg⟩ := tgt_lc (ρ := ρ) (m := m) (σ := σ) (fv := fv) hT hC0 at_ hf
    subst hown
    refine le_S (ps_setLc (own := own) (g := g) (tt := tt) at_.calm (by rw [at_.nm]; exact at_.nd) (by rw [at_.nm]; exact hN) (by rw [at_.sce]; exact hyl) (sw_true ?_ (by rw [at_.sce]; exact hyl) hln hany) wpI_pi (blkOk_by (by rw [at_.nm, at_.sce]; exact hok)) hPG hts teBlk_pe (hns _)) ?_
    · rw [at_.sce]; exact hk
    refine hI fr σ H o _ fun J H1 x1 o1 itx D hD => ?_
    exact lc_coreP (Q := fun x H1 => D0.nx (σ.set i (some x)) H1) (scope := scope) (elt := elt) (tt := tt) hg o1 itx hD hlen hgo hht hhe fun xs H' x2 o2 rv => fin D xs H' (x1.trans x2) o2 rv
theorem lc_run (hT : TgtOk N (relS scope sc) true js tg own) (hC0 : CellOk scope own) (hok : blkC N sc scope own = true) (hns : ∀ env x, foldedSetIterable iter env x = pure x) (hi : OkI G N sc df it tg iter) (hE : OkE G N (relS scope sc) false a elt) {X : Cx} (at_ : G.At N sc df X) {ρc : Ev} {ow : Own} {v : CV} (h : evE G.T (.lc js it a) ρc ow = some v) {mo : Mem} {qs : List Addr} {ρ : Rho} (hl : qs.length = ow.length) (hr : RepE G.Z mo qs ρc ρ) :
    ∃ us, v = .p (.lst us) ∧ LcRun X N sc scope elt tg iter [] pos ρ (mo ++ memW G.Z qs ow) (absPs G.Z us) := by
  simp only [evE] at h
  split at h
  · cases h
  · rename_i items hit
    obtain ⟨us, hlen, hgo, rfl⟩ := lcFin_form h
    refine ⟨us, rfl, lc_gen (tt := tYes) at_ hT hC0 hok hns (fun fr σ H o R q => hi X at_ _ _ _ hit _ _ _ hl hr fr σ H o R q) hlen hgo (fun v o ho => ?_) (fun _ _ _ _ _ => pts_nil) (fun v o frx σ2 H2 Q hv o2 q => ?_) (fun v u X' hX hv => ?_)⟩
    · obtain ⟨ρ', u, hb, _, _⟩ := lcI_form ho
      exact bindE_form hb
    · obtain ⟨ρ', u, _, _, rfl⟩ := lcI_form hv
      exact q H2 (.refl _ _) o2
    · obtain ⟨ρ', u', hb, hu, e⟩ := lcI_form hv
      cases e
      intro Kt q
      exact hE X' (relS_at at_ hX) ρ' ow (.p u) hu mo qs (tgtA G.Z js v (wipeR ρ js)) hl (RepE.bind hb (hr.wipe js)) Kt fun A hA => q A hA.pE
theorem lcf_run (hT : TgtOk N (relS scope sc) true js tg own) (hC0 : CellOk scope own) (hok : blkC N sc scope own = true) (hns : ∀ env x, foldedSetIterable iter env x = pure x) (hi : OkI G N sc df it tg iter) (hC : OkT G N (relS scope sc) false c e) (hE : OkE G N (relS scope sc) false a elt) {X : Cx} (at_ : G.At N sc df X) {ρc : Ev} {ow : Own} {v : CV} (h : evE G.T (.lcf js it c a) ρc ow = some v) {mo : Mem} {qs : List Addr} {ρ : Rho} (hl : qs.length = ow.length) (hr : RepE G.Z mo qs ρc ρ) :
    ∃ us, v = .p (.lst us) ∧ LcRun X N sc scope elt tg iter [e] pos ρ (mo ++ memW G.Z qs ow) (absPs G.Z us) := by
  simp only [evE] at h
  split at h
  · cases h
  · rename_i items hit
    obtain ⟨us, hlen, hgo, rfl⟩ := lcFin_form h
    refine ⟨us, rfl, lc_gen (tt := ttBlk X scope e) at_ hT hC0 hok hns (fun fr σ H o R q => hi X at_ _ _ _ hit _ _ _ hl hr fr σ H o R q) hlen hgo (fun v o ho => ?_) (fun s H C cl fp => ttBlk_pt s H C cl fp) (fun v o frx σ2 H2 Q hv o2 q => ?_) (fun v u X' hX hv => ?_)⟩
    · obtain ⟨ρ', x, hb, _, _, _⟩ := lcIf_form ho
      exact bindE_form hb
    · obtain ⟨ρ', x, hb, hx, ht, _⟩ := lcIf_form hv
      intro X' hX
      refine hC X' (relS_at at_ hX) ρ' ow x _ hx ht mo qs (tgtA G.Z js v (wipeR ρ js)) hl (RepE.bind hb (hr.wipe js)) (fun b m' => b = o.isSome ∧ m' = mo ++ memW G.Z qs ow) ⟨rfl, rfl⟩ frx σ2 H2 ⟨by rw [hX.kt]; exact o2.env, by rw [hX.kt]; exact o2.mem⟩ _ fun b m' H3 ⟨e1, e2⟩ x3 o3 => ?_
      subst e1 e2
      rw [hX.kt] at o3
      exact q H3 x3 o3
    · obtain ⟨ρ', x, hb, hx, ht, hu⟩ := lcIf_form hv
      intro Kt q
      exact hE X' (relS_at at_ hX) ρ' ow (.p u) (hu u rfl) mo qs (tgtA G.Z js v (wipeR ρ js)) hl (RepE.bind hb (hr.wipe js)) Kt fun A hA => q A hA.pE
theorem okE_lc (hT : TgtOk N (relS scope sc) true js tg own) (hC0 : CellOk scope own) (hok : blkC N sc scope own = true) (hns : ∀ env x, foldedSetIterable iter env x = pure x) (hi : OkI G N sc df it tg iter) (hE : OkE G N (relS scope sc) false a elt) : OkE G N sc df (.lc js it a) (.ListComp elt [⟨tg, iter, [], 0⟩] scope pos) := fun X at_ ρc ow v h mo qs ρ hl hr Kt q => by
  obtain ⟨us, rfl, r⟩ := lc_run (pos := pos) hT hC0 hok hns hi hE at_ h hl hr
  exact WN.we (r.we _ (q _ (by rw [← absP]; exact .p _)))
theorem okE_lcf (hT : TgtOk N (relS scope sc) true js tg own) (hC0 : CellOk scope own) (hok : blkC N sc scope own = true) (hns : ∀ env x, foldedSetIterable iter env x = pure x) (hi : OkI G N sc df it tg iter) (hC : OkT G N (relS scope sc) false c e) (hE : OkE G N (relS scope sc) false a elt) : OkE G N sc df (.lcf js it c a) (.ListComp elt [⟨tg, iter, [e], 0⟩] scope pos) := fun X at_ ρc ow v h mo qs ρ hl hr Kt q => by
  obtain ⟨us, rfl, r⟩ := lcf_run (pos := pos) hT hC0 hok hns hi hC hE at_ h hl hr
  exact WN.we (r.we _ (q _ (by rw [← absP]; exact .p _)))
end
end EV
namespace EV
open PySem PySem.Spec L2 AL
open PyProof.Rows hiding St
/-! ### the own lists -/
theorem memW_snoc {Z : Cls} {q : Addr} {l : List PV} : ∀ {qs : List Addr} {w : Own}, qs.length = w.length → memW Z (qs ++ [q]) (w ++ [l]) = memW Z qs w ++ [(q, .l (absPs Z l))]
  | [], [], _ => by simp [memW]
  | _ :: _, _ :: _, h => by
    rw [List.cons_append, List.cons_append, memW, memW, memW_snoc (by simpa using h)]
    rfl
  | [], _ :: _, h => by simp at h
  | _ :: _, [], h => by simp at h
theorem memW_at {Z : Cls} : ∀ {qs : List Addr} {w : Own} {n : Nat} {q : Addr} {l : List PV}, qs[n]? = some q → w[n]? = some l → ∃ m4 m5, memW Z qs w = m4 ++ (q, Cell.l (absPs Z l)) :: m5 ∧ ∀ l', memW Z qs (w.set n l') = m4 ++ (q, Cell.l (absPs Z l')) :: m5
  | [], _, _, _, _, h, _ => by simp at h
  | _ :: _, [], _, _, _, _, h => by simp at h
  | q :: qs, l :: w, 0, _, _, h1, h2 => by
    simp at h1 h2
    subst h1 h2
    exact ⟨[], memW Z qs w, by simp [memW], fun l' => by simp [memW]⟩
  | q :: qs, l :: w, n + 1, _, _, h1, h2 => by
    simp at h1 h2
    obtain ⟨m4, m5, e1, e2⟩ := memW_at (Z := Z) h1 h2
    refine ⟨(q, Cell.l (absPs Z l)) :: m4, m5, by rw [memW, e1]; rfl, fun l' => ?_⟩
    rw [List.set_cons_succ, memW, e2]
    rfl
theorem memW_split {Z : Cls} {mo : Mem} {qs : List Addr} {w : Own} {n : Nat} {q : Addr} {l : List PV} (h1 : qs[n]? = some q) (h2 : w[n]? = some l) : ∃ m4 m5, mo ++ memW Z qs w = m4 ++ (q, Cell.l (absPs Z l)) :: m5 ∧ ∀ l', mo ++ memW Z qs (w.set n l') = m4 ++ (q, Cell.l (absPs Z l')) :: m5 := by
  obtain ⟨m4, m5, e1, e2⟩ := memW_at (Z := Z) h1 h2
  exact ⟨mo ++ m4, m5, by rw [e1, List.append_assoc], fun l' => by rw [e2, List.append_assoc]⟩
theorem RepC.more {Z : Cls} {mo : Mem} {qs : List Addr} {q : Addr} {c : CV} {A : AV} (r : RepC Z mo qs c A) : RepC Z mo (qs ++ [q]) c A := by
  cases r with
  | p v => exact .p v
  | r n q' h => exact .r n q' (by rw [List.getElem?_append_left (List.getElem?_eq_some_iff.mp h).1]; exact h)
  | o l q' h => exact .o l q' h
theorem RepE.more {Z : Cls} {mo : Mem} {qs : List Addr} {q : Addr} : ∀ {ρc : Ev} {ρ : Rho}, RepE Z mo qs ρc ρ → RepE Z mo (qs ++ [q]) ρc ρ
  | _, _, .nil => .nil
  | none :: _, _ :: _, .cons _ t => .cons trivial (RepE.more t)
  | some c :: _, some A :: _, .cons r t => .cons (RepC.more r) (RepE.more t)
  | some c :: _, none :: _, .cons r t => r.elim
theorem RepE.new {Z : Cls} {mo : Mem} {qs : List Addr} {w : Own} {ρc : Ev} {ρ : Rho} {q : Addr} (hl : qs.length = w.length) (hr : RepE Z mo qs ρc ρ) (i : Nat) : RepE Z mo (qs ++ [q]) (ρc.set i (some (.r w.length))) (ρ.set i (some (val (.ref q)))) :=
  (hr.more).set (.r w.length q (by rw [← hl]; simp)) i
/-! ### ends -/
def EndsHold (Z : Cls) (mo : Mem) (E : EndsA) : Out → Prop
  | .nx ρc w => ∀ qs ρ, qs.length = w.length → RepE Z mo qs ρc ρ → E.nx ρ (mo ++ memW Z qs w)
  | .bk ρc w => ∀ qs ρ, qs.length = w.length → RepE Z mo qs ρc ρ → E.bk ρ (mo ++ memW Z qs w)
  | .ct ρc w => ∀ qs ρ, qs.length = w.length → RepE Z mo qs ρc ρ → E.ct ρ (mo ++ memW Z qs w)
  | .rt v => ∀ (qs : List Addr) (w : Own) A, Conv A (mo ++ memW Z qs w) (absP Z v) mo → E.rt A (mo ++ memW Z qs w)
def OkS (G : Gx) (F : Nat) (N : List Str) (sc : Scope) (df : Bool) (c : CS) (st : Stmt) : Prop :=
  ∀ X, G.At N sc df X → ∀ ρc ow out, evS G.T F c ρc ow = some out → ∀ mo qs ρ, qs.length = ow.length → RepE G.Z mo qs ρc ρ → ∀ E, EndsHold G.Z mo E out → WS X st ρ (mo ++ memW G.Z qs ow) E
def OkSs (G : Gx) (F : Nat) (N : List Str) (sc : Scope) (df : Bool) (c : CSs) (sts : List Stmt) : Prop :=
  ∀ X, G.At N sc df X → ∀ ρc ow out, evSs G.T F c ρc ow = some out → ∀ mo qs ρ, qs.length = ow.length → RepE G.Z mo qs ρc ρ → ∀ E, EndsHold G.Z mo E out → WSs X sts ρ (mo ++ memW G.Z qs ow) E
/-- a comprehension in e, alone on the right side -/
def noComp : Expr → Bool
  | .ListComp .. => false
  | .SetComp .. => false
  | .DictComp .. => false
  | _ => true
theorem noComp_eq {e : Expr} (h : noComp e = true) (t : Option Expr) (l : Nat) (env : Env) : swapsWith e t l env = pure false := by
  cases e with
  | ListComp => simp [noComp] at h
  | SetComp => simp [noComp] at h
  | DictComp => simp [noComp] at h
  | _ => rfl
theorem noComp_sole {e : Expr} (h : noComp e = true) (t : Expr) (l : Nat) (env : Env) : swapsWithSole [t] e l env = pure false := noComp_eq h _ _ _
section
variable {G : Gx} {F : Nat} {N : List Str} {sc : Scope} {df : Bool} {pos ppos pos' p p2 tp : Pos} {e f g tg iter : Expr} {c a b : CE} {cs : CEs} {es : List Expr} {x y : Str} {i : Nat} {ss bs : CSs} {st : Stmt} {sts as : List Stmt}
abbrev Loc' (sc : Scope) (df : Bool) (x : Str) : Prop := sc.names.lookup x = some .local ∨ (df = true ∧ sc.names.lookup x = some .cell)
theorem okSs_nil : OkSs G F N sc df .nil [] := fun X at_ ρc ow out h mo qs ρ hl hr E hE => by
  cases h
  exact wss_nil (hE qs ρ hl hr)
theorem okSs_cons {s : CS} (h1 : OkS G F N sc df s st) (h2 : OkSs G F N sc df ss sts) : OkSs G F N sc df (.cons s ss) (st :: sts) := fun X at_ ρc ow out h mo qs ρ hl hr E hE => by
  simp only [evSs] at h
  split at h
  · cases h
  · rename_i ρ' w' h3
    exact wss_cons (h1 X at_ _ _ _ h3 _ _ _ hl hr _ fun qs' ρA hl' hr' => h2 X at_ _ _ _ h _ _ _ hl' hr' E hE)
  · rename_i h4 h3
    cases h
    refine wss_cons (h1 X at_ _ _ _ h3 _ _ _ hl hr _ ?_)
    cases out with
    | nx ρ' w' => exact (h4 ρ' w' rfl).elim
    | rt v => exact hE
    | bk ρ' w' => exact hE
    | ct ρ' w' => exact hE
theorem okS_fail : OkS G F N sc df .fail st := fun X at_ ρc ow out h => by cases h
theorem okS_pass : OkS G F N sc df .pass (.Pass pos) := fun X at_ ρc ow out h mo qs ρ hl hr E hE fr σ H o D g => by
  cases h
  exact le_S ps_pass (g.nx ρ _ σ H (hE qs ρ hl hr) (.refl _ _) o)
theorem okS_brk : OkS G F N sc df .brk (.Break pos) := fun X at_ ρc ow out h mo qs ρ hl hr E hE fr σ H o D g => by
  cases h
  exact le_S ps_break (g.bk ρ _ σ H (hE qs ρ hl hr) (.refl _ _) o)
theorem okS_cnt : OkS G F N sc df .cnt (.Continue pos) := fun X at_ ρc ow out h mo qs ρ hl hr E hE => by
  cases h
  exact ws_cont (hE qs ρ hl hr)
theorem okS_ex (hc : noComp e = true) (ha : OkE G N sc df a e) : OkS G F N sc df (.ex a) (.Expr e pos) := fun X at_ ρc ow out h mo qs ρ hl hr E hE => by
  simp only [evS] at h
  split at h
  · rename_i v hv
    cases h
    exact ws_expr ((ha X at_ _ _ _ hv _ _ _ hl hr).to fun A hA => hE qs ρ hl hr) (noComp_eq hc _ _ _)
  · cases h
theorem okS_set (hN : N[i]? = some x) (hx : Loc' sc df x) (hc : noComp e = true) (ha : OkE G N sc df a e) : OkS G F N sc df (.set i a) (.Assign [.Name x pos'] e pos) := fun X at_ ρc ow out h mo qs ρ hl hr E hE => by
  simp only [evS] at h
  split at h
  · rename_i v hv
    cases h
    exact ws_set at_ i hN hx ((ha X at_ _ _ _ hv _ _ _ hl hr).to fun A hA => hE qs _ hl (hr.set hA i)) (noComp_eq hc _ _ _)
  · cases h
/-- name = [.. for ..], not on the fast road -/
theorem okS_setL {elt : Expr} {gs : List Comprehension} {scope : Scope} (hN : N[i]? = some x) (hx : Loc' sc df x) (hxl : sc.names.lookup x ≠ some .local) (ha : OkE G N sc df a (.ListComp elt gs scope p)) : OkS G F N sc df (.set i a) (.Assign [.Name x pos'] (.ListComp elt gs scope p) pos) := fun X at_ ρc ow out h mo qs ρ hl hr E hE => by
  simp only [evS] at h
  split at h
  · rename_i v hv
    cases h
    refine ws_set at_ i hN hx ((ha X at_ _ _ _ hv _ _ _ hl hr).to fun A hA => hE qs _ hl (hr.set hA i)) ?_
    have hk : X.env.kindOf x = sc.names.lookup x := by show X.env.scope.names.lookup x = _; rw [at_.sce]
    unfold swapsWith
    simp only [hk]
    have : (sc.names.lookup x == some NameKind.local) = false := by
      rw [beq_eq_false_iff_ne]; exact hxl
    simp [this]
  · cases h
theorem okS_setD {kx vx : Expr} {gs : List Comprehension} {scope : Scope} (hN : N[i]? = some x) (hx : Loc' sc df x) (hxl : sc.names.lookup x ≠ some .local) (ha : OkE G N sc df a (.DictComp kx vx gs scope p)) : OkS G F N sc df (.set i a) (.Assign [.Name x pos'] (.DictComp kx vx gs scope p) pos) := fun X at_ ρc ow out h mo qs ρ hl hr E hE => by
  simp only [evS] at h
  split at h
  · rename_i v hv
    cases h
    refine ws_set at_ i hN hx ((ha X at_ _ _ _ hv _ _ _ hl hr).to fun A hA => hE qs _ hl (hr.set hA i)) ?_
    have hk : X.env.kindOf x = sc.names.lookup x := by show X.env.scope.names.lookup x = _; rw [at_.sce]
    unfold swapsWith
    simp only [hk]
    have : (sc.names.lookup x == some NameKind.local) = false := by
      rw [beq_eq_false_iff_ne]; exact hxl
    simp [this]
  · cases h
/-- a new list of one's own -/
theorem new_cell {X : Cx} {fr : Frm} {ρ : Rho} {m : Mem} {σ : St} {H : Hp} {q : Addr} {vs : List V} {As : List AV} (o : Holds X.K ((q, .lst vs) :: fr) ρ m σ H) (r : AllV X.K (Ms ((q, .lst vs) :: fr) m) H As vs) :
    Ext (Ms ((q, .lst vs) :: fr) m) H (Ms fr (m ++ [(q, .l As)])) H ∧ EnvV X.K (Ms fr (m ++ [(q, .l As)])) H ρ σ ∧ MemV X.K fr (m ++ [(q, .l As)]) H := by
  have hms : ∀ z, z ∈ Ms fr (m ++ [(q, .l As)]) ↔ z ∈ Ms ((q, .lst vs) :: fr) m := fun z => by
    unfold Ms
    simp only [List.map_append, List.map_cons, List.map_nil, List.mem_append, List.mem_cons, List.not_mem_nil, or_false]
    constructor
    · rintro (h | h | h)
      · exact .inl (.inr h)
      · exact .inr h
      · exact .inl (.inl h)
    · rintro ((h | h) | h)
      · exact .inr (.inr h)
      · exact .inl h
      · exact .inr (.inl h)
  have xs : Ext (Ms ((q, .lst vs) :: fr) m) H (Ms fr (m ++ [(q, .l As)])) H := .same fun z hz => (hms z).mp hz
  have nq := (List.nodup_cons.mp o.mem.nd).1
  refine ⟨xs, o.env.st xs, ⟨fun b v z => o.mem.frm b v (List.mem_cons_of_mem _ z), fun b c z => ?_, nd_snoc (List.nodup_cons.mp o.mem.nd).2 nq⟩⟩
  rcases List.mem_append.mp z with z | z
  · obtain ⟨v, e, r'⟩ := o.mem.at_ b c z
    exact ⟨v, e, r'.st xs⟩
  · rw [List.mem_singleton] at z
    cases z
    exact ⟨_, o.mem.frm _ _ List.mem_cons_self, AllV.st r xs⟩
theorem setC_value {elt : Expr} {scope : Scope} {ifs : List Expr} {ow : Own} {us : List PV} {X : Cx} (at_ : G.At N sc df X) {mo : Mem} {qs : List Addr} {ρ : Rho} {ρc : Ev} {E : EndsA} {py spos : Pos} (hl : qs.length = ow.length) (hr : RepE G.Z mo qs ρc ρ) (r : LcRun X N sc scope elt tg iter ifs pos ρ (mo ++ memW G.Z qs ow) (absPs G.Z us))
    (hk : sc.kind = .function) (hN : N[i]? = some y) (hyl : sc.names.lookup y = some .local) (hln : (py.line == pos.line) = true) (hany : (scope.names.any fun (n, k) => n == y && (k == .local || k == .cell)) = false) (hE : EndsHold G.Z mo E (.nx (ρc.set i (some (.p (.lst us)))) ow)) :
    WS X (.Assign [.Name y py] (.ListComp elt [⟨tg, iter, ifs, 0⟩] scope pos) spos) ρ (mo ++ memW G.Z qs ow) E := fun fr σ H o D0 gS => r.set o hk hN hyl hln hany fun D xs H' x2 o2 rv => by
  obtain ⟨o3, r3⟩ := new_lst o2 rv
  exact gS.nx _ _ _ H' (hE qs _ hl (hr.set (.p (.lst us)) i)) (x2.trans .pop) ⟨o3.env.set (by rw [absP]; exact r3) i, o3.mem⟩
theorem setC_cell {elt : Expr} {scope : Scope} {ifs : List Expr} {ow : Own} {us : List PV} {X : Cx} (at_ : G.At N sc df X) {mo : Mem} {qs : List Addr} {ρ : Rho} {ρc : Ev} {E : EndsA} {py spos : Pos} (hl : qs.length = ow.length) (hr : RepE G.Z mo qs ρc ρ) (r : LcRun X N sc scope elt tg iter ifs pos ρ (mo ++ memW G.Z qs ow) (absPs G.Z us))
    (hk : sc.kind = .function) (hN : N[i]? = some y) (hyl : sc.names.lookup y = some .local) (hln : (py.line == pos.line) = true) (hany : (scope.names.any fun (n, k) => n == y && (k == .local || k == .cell)) = false) (hE : EndsHold G.Z mo E (.nx (ρc.set i (some (.r ow.length))) (ow ++ [us]))) :
    WS X (.Assign [.Name y py] (.ListComp elt [⟨tg, iter, ifs, 0⟩] scope pos) spos) ρ (mo ++ memW G.Z qs ow) E := fun fr σ H o D0 gS => r.set o hk hN hyl hln hany fun D xs H' x2 o2 rv => by
  obtain ⟨xc, ec, mc⟩ := new_cell o2 rv
  have hm : mo ++ memW G.Z (qs ++ [D]) (ow ++ [us]) = (mo ++ memW G.Z qs ow) ++ [(D, .l (absPs G.Z us))] := by rw [memW_snoc hl, List.append_assoc]
  have hh := hE (qs ++ [D]) _ (by rw [List.length_append, List.length_append, hl]; rfl) (hr.new (w := ow) (q := D) hl i)
  rw [hm] at hh
  exact gS.nx _ _ _ H' hh (x2.trans xc) ⟨ec.set rfl i, mc⟩
theorem okS_newL (hN : N[i]? = some x) (hx : Loc' sc df x) (hL : OkL G N sc df cs es) : OkS G F N sc df (.newL i cs) (.Assign [.Name x pos'] (.List es p) pos) := fun X at_ ρc ow out h mo qs ρ hl hr E hE => by
  simp only [evS] at h
  split at h
  · rename_i ps hv
    cases h
    obtain ⟨ps', e1, hw⟩ := wn_disp (pos := p) hL at_ hv hl hr
    cases e1
    refine ws_new at_ i hN hx (hw _ fun q => ?_) rfl
    have hh := hE (qs ++ [q]) _ (by rw [List.length_append, List.length_append, hl]; rfl) (hr.new (w := ow) (q := q) hl i)
    rw [memW_snoc hl, ← List.append_assoc] at hh
    exact hh
  · cases h
/-- a new list by an operator or a built-in -/
def OkN (G : Gx) (N : List Str) (sc : Scope) (df : Bool) (c : CE) (e : Expr) : Prop :=
  ∀ X, G.At N sc df X → ∀ ρc ow ps, evE G.T c ρc ow = some (.p (.lst ps)) → ∀ mo qs ρ, qs.length = ow.length → RepE G.Z mo qs ρc ρ → ∀ Kl : KL, Kl (absPs G.Z ps) (mo ++ memW G.Z qs ow) → WN X e ρ (mo ++ memW G.Z qs ow) Kl
theorem okS_newX (hN : N[i]? = some x) (hx : Loc' sc df x) (hc : noComp e = true) (ha : OkN G N sc df a e) : OkS G F N sc df (.newX i a) (.Assign [.Name x pos'] e pos) := fun X at_ ρc ow out h mo qs ρ hl hr E hE => by
  simp only [evS] at h
  split at h
  · rename_i ps hv
    cases h
    refine ws_new at_ i hN hx (ha X at_ _ _ _ hv _ _ _ hl hr _ fun q => ?_) (noComp_eq hc _ _ _)
    have hh := hE (qs ++ [q]) _ (by rw [List.length_append, List.length_append, hl]; rfl) (hr.new (w := ow) (q := q) hl i)
    rw [memW_snoc hl, ← List.append_assoc] at hh
    exact hh
  · cases h
/-! ### several names -/
theorem wg_of {js : List Nat} {own : List (Str × Nat)} {X : Cx} (at_ : G.At N sc df X) (hT : TgtOk N sc df js tg own) {v : PV} {ρ : Rho} {m : Mem} {Kg : KG} (hf : (∃ j, js = [j]) ∨ ((∀ j, js ≠ [j]) ∧ ∃ vs, v = .tup vs ∧ js.length = vs.length)) (q : Kg (tgtA G.Z js v ρ) m) : WG X tg (absP G.Z v) ρ m Kg := by
  cases hT with
  | one j nm p h hl => exact wg_name at_ j h hl q
  | tup jl kk tp hne h =>
    rcases hf with ⟨j, ej⟩ | ⟨_, vs, rfl, hlen⟩
    · exact absurd ej (hne j)
    · rw [List.length_map] at hlen
      refine wg_tup at_ jl rfl (As := absPs G.Z vs) (by rw [absP]) (by rw [absPs_len]; exact hlen) h (assignEach_names _ jl).1 (assignEach_names _ jl).2 ?_
      unfold tgtA at q
      split at q
      · rename_i j ej; exact absurd ej (hne j)
      · exact q
def noTup : Expr → Bool
  | .Tuple .. => false
  | _ => true
theorem okS_setT {js : List Nat} {own : List (Str × Nat)} {elts : List Expr} {kk : Nat} (hT : TgtOk N sc df js (.Tuple elts kk tp) own) (hj : ∀ j, js ≠ [j]) (hc : noComp e = true) (ht : noTup e = true) (ha : OkE G N sc df a e) : OkS G F N sc df (.setT js a) (.Assign [.Tuple elts kk tp] e pos) := fun X at_ ρc ow out h mo qs ρ hl hr E hE => by
  simp only [evS] at h
  split at h
  · rename_i ps hv
    split at h
    · rename_i ρ' hs
      cases h
      refine ws_asg ((ha X at_ _ _ _ hv _ _ _ hl hr).to fun A hA => ?_) (noComp_sole hc _ _ _) ?_ rfl
      · rw [hA.pE]
        refine wg_of at_ hT (.inr ⟨hj, ps, rfl, setAllE_len hs⟩) (hE qs _ hl ?_)
        refine RepE.bind (js := js) (v := .tup ps) ?_ hr
        unfold bindE
        split
        · rename_i j; exact absurd rfl (hj j)
        · exact hs
      · cases e with
        | Tuple => simp [noTup] at ht
        | _ => rfl
    · cases h
  · cases h
end
end EV
/-! RVT: t[::-1] of a tuple. -/
namespace RVT
open PySem PySem.Spec L2 HT
open PyProof.Rows hiding St
section
variable {prog : Program} {w : World} {A : Around} {E : Value → Shared → Prop} {s : Shared}
theorem applied_back {sl : Addr} {vs : Value} {n : Nat} {Q : Int × Int × Nat → Shared → Prop} (hs : s.heap.IsSliceOf sl .none .none vs) (ps : IsPart vs (some (-1)))
    (h : Q (((n : Int) - 1), -1, n) s) : wpAny (model prog w) A (Builtin.Slice.sliceApplied (.ref sl) (pure (n : Int))) Q E s := by
  obtain ⟨os, hos, _, hds⟩ := id hs
  unfold Builtin.Slice.sliceApplied Builtin.Slice.sliceFields
  refine wpAny_bind (wpAny_bind (wpAny_field hos hds (x := .none) rfl (wpAny_bind (wpAny_field hos hds (x := .none) rfl (wpAny_bind (wpAny_field hos hds (x := vs) rfl (wpAny_pure ?_)))))))
  refine wpAny_bind (HT.slicePart_ ps ?_)
  show wpAny _ _ (if ((-1 : Int) == 0) = true then _ else _) _ _ s
  rw [if_neg (by decide)]
  refine wpAny_bind (slicePart_none (wpAny_bind (slicePart_none (wpAny_bind (wpAny_pure ?_)))))
  show wpAny _ _ (pure ((n : Int) - 1, (-1 : Int), Builtin.Slice.slicePlaces ((n : Int) - 1) (-1) (-1))) _ _ s
  have e : Builtin.Slice.slicePlaces ((n : Int) - 1) (-1) (-1) = n := by
    unfold Builtin.Slice.slicePlaces
    rw [if_neg (by decide)]
    by_cases h0 : (n : Int) - 1 > -1
    · rw [if_pos h0, show (- -1 : Int) = 1 by decide, Int.ediv_one]; omega
    · rw [if_neg h0]; omega
  rw [e]
  exact wpAny_pure h
theorem pick_back (xs : Array Value) : ((List.range xs.size).filterMap fun (m : Nat) => xs[(((xs.size : Nat) : Int) - 1 + (m : Int) * -1).toNat]?).toArray = xs.toList.reverse.toArray := by
  have e : ((List.range xs.size).filterMap fun (m : Nat) => xs[(((xs.size : Nat) : Int) - 1 + (m : Int) * -1).toNat]?) = ((List.range xs.size).map fun k => xs.size - 1 - k).filterMap (xs[·]?) := by
    rw [List.filterMap_map]
    have key : ∀ l : List Nat, (∀ k ∈ l, k < xs.size) → (l.filterMap fun (m : Nat) => xs[(((xs.size : Nat) : Int) - 1 + (m : Int) * -1).toNat]?) = l.filterMap ((fun x => xs[x]?) ∘ fun k => xs.size - 1 - k) := by
      intro l
      induction l with
      | nil => intro _; rfl
      | cons k l ih =>
        intro h
        have h1 := h k List.mem_cons_self
        have e2 : (((xs.size : Nat) : Int) - 1 + (k : Int) * -1).toNat = xs.size - 1 - k := by omega
        rw [List.filterMap_cons, List.filterMap_cons, ih fun z hz => h z (List.mem_cons_of_mem _ hz), e2]
        rfl
    exact key _ fun k hk => List.mem_range.mp hk
  rw [e, PySem.W.krv_range, List.filterMap_reverse, PySem.W.krv_all]
theorem tuple_back {t sl : Addr} {items : Array Value} {vs : Value} {Q : Value → Shared → Prop} (ht : IsTup s.heap t items) (hs : s.heap.IsSliceOf sl .none .none vs) (ps : IsPart vs (some (-1)))
    (h : Q (.ref s.heap.objs.size) { s with heap := s.heap.push { cls := .type "tuple", data := .seq items.toList.reverse.toArray } }) (hsz : items.size ≤ sizeLine) : wpAny (model prog w) A (getItem (.ref t) (.ref sl)) Q E s := by
  have fit : sizeOk (.seq items.toList.reverse.toArray) := by
    show items.toList.reverse.toArray.size ≤ sizeLine
    rw [List.size_toArray, List.length_reverse, Array.length_toList]
    exact hsz
  obtain ⟨os, hos, hcs, hds⟩ := id hs
  have ty : s.TypeIs (.ref sl) "slice" := ⟨os, hos, hcs⟩
  unfold getItem
  try with_reducible refine wpAny_holding ?_
  first | refine wpAny_bind (wpAny_pure ?_) | skip
  refine wpAny_bind (wpAny_sequenceKey ht.typeIs (by decide) ?_)
  refine wpAny_bind (wpAny_callSpecial?_slot (name := Str.ofString "__getitem__") ht.typeIs PyProof.Rows.slot_tuple_getitem (wpAny_call_entry PyProof.Rows.slot_tuple_getitem ht.typeIs entry_tuple_getitem ?_ (args_tuple_getitem _ _)))
  show wpAny _ _ (Builtin.Tuple.tupleItemsOf (.ref t) >>= _) _ _ s
  refine wpAny_bind (tupleItemsOf_ ht (wpAny_bind (wpAny_typeOf ty ?_)))
  rw [if_pos (by decide)]
  refine wpAny_bind (applied_back hs ps ?_)
  show wpAny _ _ (if (((items.size : Nat) : Int) - 1 == 0 && (-1 : Int) == 1 && items.size == items.size) = true then _ else _) _ _ s
  have hno : ¬ ((((items.size : Nat) : Int) - 1 == 0 && (-1 : Int) == 1 && items.size == items.size) = true) := by
    rw [show ((-1 : Int) == 1) = false by decide, Bool.and_false, Bool.false_and]
    exact Bool.false_ne_true
  rw [if_neg hno, pick_back]
  first
    | exact wpAny_bind (m := Builtin.Tuple.tupleExact _) (wpAny_newObj_type (wpAny_pure ⟨_, rfl, wpAny_pure h⟩) fit)
    | exact wpAny_bind (m := Builtin.Tuple.tupleExact _) (wpAny_newObj_type (wpAny_bind (wpAny_pure (wpAny_pure ⟨_, rfl, wpAny_pure h⟩))) fit)
    | exact wpAny_bind (wpAny_bind (m := Builtin.Tuple.tupleExact _) (wpAny_newObj_type (wpAny_pure (wpAny_pure ⟨_, rfl, wpAny_pure h⟩)) fit))
    | exact wpAny_bind (wpAny_bind (m := Builtin.Tuple.tupleExact _) (wpAny_newObj_type (wpAny_pure ⟨_, rfl, wpAny_pure h⟩) fit))
end
end RVT
namespace AL
open PySem PySem.Spec L2
open PyProof.Rows hiding St
section
variable {X : Cx} {ρ : Rho} {m : Mem} {Kt : KA} {pos : Pos}
def tBackT (K : PySem.W.Frag) (te : TE) : TE := fun σ H Q =>
  te σ H fun x J => ∃ a ys, x = .ref a ∧ SqT K J a ys ∧ ∀ q, J q = none → Q (.ref q) (upd J q (.tup ys.reverse))
theorem pe_backT {e : Expr} {te : TE} {j : Nat} {p1 p2 p3 pos : Pos} (he : PE X e te) :
    PE X (.Subscript e (.Slice none none (some (.UnaryOp .USub (.Constant (.int 1) j p1) p2)) p3) pos) (tBackT X.K te) := by
  refine ⟨fun pins s σ H Q I hh => ?_⟩
  refine Subscript_ (thn (he.run pins s σ H _ I hh) fun v t1 ⟨x, J1, I1, r1, q1⟩ => ?_)
  obtain ⟨a, ys, rfl, hy, q⟩ := q1
  cases r1
  have hp : PO X (some (.UnaryOp .USub (.Constant (.int 1) j p1) p2)) (tPart (tUn (rU fun i => .int (-i)) (tC (.int 1)))) := po_some (pe_un un_neg pe_int)
  refine wpAny_Slice ?_
  rw [evalPart_none]
  refine wpAny_pure (wpAny_pure (thn (hp.run pins t1 σ J1 (fun o J4 => o = some (-1) ∧ J4 = J1) I1 ⟨1, rfl, -1, rfl, rfl, rfl⟩) fun vs t4 ⟨o, J4, I4, ps, eo, e4⟩ => ?_))
  obtain rfl := e4
  obtain rfl := eo
  have I5 : Inv X pins σ J4 { t4 with heap := t4.heap.push { cls := .type "slice", data := .fields #[.none, .none, vs] } } :=
    I4.kept (t' := t4.toks) fun b ob z => Heap.get?_push_of_some _ z
  obtain ⟨its, r, ht, hz⟩ := I5.tuple hy
  have hlen := r.length
  show wpAny (model X.prog X.w) X.A (subscriptTail e (.Slice none none (some (.UnaryOp .USub (.Constant (.int 1) j p1) p2)) p3) (.ref a) (.ref t4.heap.objs.size)) (EP X pins σ Q) X.xe
    { t4 with heap := t4.heap.push { cls := .type "slice", data := .fields #[.none, .none, vs] } }
  refine tail_any (ops := [.ref a, .ref t4.heap.objs.size]) ht.typeIs (PyProof.Rows.slot_tuple_getitem.lookup) ?_ (by with_unfolding_all rfl)
  refine RVT.tuple_back ht (Heap.IsSliceOf.new _ .none .none vs) ps ?_ (by rw [List.size_toArray]; omega)
  refine ⟨.ref _, _, I5.laid (t' := t4.toks) (o := .tup ys.reverse) (fun b ob z => Heap.get?_push_of_some _ z) (Nat.le_refl _) ?_, rfl, q _ (I5.hok.fresh (Nat.le_refl _))⟩
  refine ⟨?_, _, r.reverse, ?_⟩
  · rw [List.length_reverse]
    exact hz
  · exact IsTup.new _ _
theorem we_backT {e : Expr} {j : Nat} {p1 p2 p3 pos : Pos} (h : WE X e ρ m fun A m1 => ∃ As, A = tup As ∧ Kt (tup As.reverse) m1) :
    WE X (.Subscript e (.Slice none none (some (.UnaryOp .USub (.Constant (.int 1) j p1) p2)) p3) pos) ρ m Kt := by
  intro fr σ H o Q g
  refine le_E (pe_backT wpE_pe) ?_
  refine h.to o fun A m1 v H1 ⟨As, ea, q⟩ x1 o1 r1 => ?_
  subst ea
  obtain ⟨p, xs, rfl, t, rr⟩ := r1
  exact ⟨p, xs, rfl, t.sq, fun s hs => g _ m1 _ _ q (x1.trans (.alloc hs)) (o1.alloc hs) ⟨s, _, rfl, at_new o1.mem hs, rr.reverse.st (.alloc hs)⟩⟩
end
end AL
/-! EXT: xs.extend(t) with a tuple t. -/
namespace AL
open PySem PySem.Spec L2
open PyProof.Rows hiding St
set_option maxHeartbeats 1000000 in
theorem meets_extT (l : Addr) (items : Array Value) (n : Nat) (b : Addr) (its2 : Array Value) (c : Obj) (hc : c.cls = .type "tuple") (hd : ∃ n2, c.data = .seq its2 n2)
    (short : ¬(!items.isEmpty && Builtin.List.listTooLong (items.size + its2.size)) = true) (hs1 : items.size ≤ sizeLine) (hs2 : items.size + its2.size ≤ sizeLine + 1) :
    Meets (Builtin.«list.extend» ⟨[.ref l, .ref b], []⟩) (fun _ R s => s.heap.get? l = some { cls := .type "list", dict := none, data := .seq items n, slots := #[] } ∧ s.heap.get? b = some c ∧ R (.ok (.ret Value.none)) { s with heap := s.heap.update l (Obj.mapSeq fun x => x ++ its2), toks := s.toks }) :=
  .of_wp fun prog w A R s h => by
    obtain ⟨hp, gs, dr, tk, os⟩ := s
    obtain ⟨hl, hb, fin⟩ := h
    obtain ⟨n2, hd⟩ := hd
    obtain ⟨c1, c2, c3, c4⟩ := c
    cases hc
    cases hd
    have k1 := AutoSeq1.idx_int
    have k2 := AutoSeq1.sub_tuple_tuple
    have k3 := AutoSeq1.sub_list_list
    have k4 := AutoSeq1.sub_tuple_list
    have k5 := AutoSeq1.sub_list_tuple
    have big : (items ++ its2).size ≤ sizeLine + 1 := by
      rw [Array.size_append]
      exact hs2
    wp_walk using (wpAny_updateSeq hl rfl (hz := hs1) (_hz' := big)), wpAny_loadPart' hl, wpAny_loadPart' hb
    exact ⟨_, rfl, fin⟩
def rExtT (K : PySem.W.Frag) : V → List V → Hp → VK → Prop := fun x vs H Q => ∃ l b xs zs, x = .ref l ∧ vs = [.ref b] ∧ H l = some (.lst xs) ∧ SqT K H b zs ∧ xs.length + zs.length ≤ sizeLine ∧ Q .non (upd H l (.lst (xs ++ zs)))
theorem mt_extT {X : Cx} : MtM X "list.extend" (rExtT X.K) := by
  intro pins s σ H x vs v us Q I rx rv h
  obtain ⟨l, b, xs, zs, rfl, rfl, hH, hB, hz, q⟩ := h
  cases rx
  obtain ⟨u, rfl, ru⟩ := rv.one
  cases ru
  obtain ⟨z, its, n, r, hl, e⟩ := I.lstM hH
  obtain ⟨its2, r2, ht, _⟩ := I.tuple hB
  have e1 := r.length
  have e3 := r2.length
  have hsz : its.toArray.size + its2.toArray.size ≤ sizeLine := by simp only [List.size_toArray]; omega
  have short : ¬ (!its.toArray.isEmpty && Builtin.List.listTooLong (its.toArray.size + its2.toArray.size)) = true := by
    rw [notLongL hsz, Bool.and_false]
    exact nofun
  obtain ⟨c, hg, hc, hd⟩ := ht
  refine call_meets PySem.F.slot_list_extend ⟨_, e, rfl⟩ PySem.F.entry_list_extend (PySem.F.args_list_extend_2 _ _) (meets_extT l its.toArray n b its2.toArray c hc hd short (by simp only [List.size_toArray]; omega) (by omega)) ⟨e, hg, ?_⟩
  refine ⟨.non, _, I.lset (its' := its ++ its2) hH e (by simp) (r.append r2) ?_, rfl, q⟩
  rw [List.length_append]
  omega
end AL
namespace EV
open PySem PySem.Spec L2 AL
open PyProof.Rows hiding St
section
variable {X : Cx} {ρ : Rho} {m : Mem} {Kt : KA} {pos : Pos} {e : Expr}
/-- xs.extend(e) -/
theorem we_extend {o : Expr} {apos : Pos} (h : WE X o ρ m fun A m1 => ∃ q As1 m6 m7, A = val (.ref q) ∧ m1 = m6 ++ (q, .l As1) :: m7 ∧ WE X e ρ m1 fun B m2 => ∃ As Bs m4 m5, m2 = m4 ++ (q, .l As) :: m5 ∧ IsLs m2 B Bs ∧ As.length + Bs.length ≤ 1000 ∧ Kt non (m4 ++ (q, .l (As ++ Bs)) :: m5))
    (hbase : attributeBase o "extend" X.env (eval o X.env) = eval o X.env)
    (hfew : ((backTo pos (starEach (e :: []) X.env)).all (fun x => !x.1) && (backToKw pos (keywordEach [] X.env)).all (fun x => x.1.isSome)
      && decide ((e :: ([] : List Expr)).length + ([] : List Keyword).length + (if ([] : List Keyword).isEmpty then 0 else 1) < 30)) = true)
    (hline : (apos.endLine == pos.line) = true) (hs : starEach (e :: []) X.env = (false, eval e X.env) :: starEach [] X.env) :
    WE X (.Call (.Attribute o "extend" apos) [e] [] pos) ρ m Kt := by
  intro fr σ H hh Q g
  refine le_E (pe_bm PySem.F.plainAttrs_list PySem.F.slot_list_extend PySem.F.type_list_extend mt_extend wpE_pe (pa_cons wpE_pe pa_nil hs) hbase hfew hline hs rfl) ?_
  refine h.to hh fun A m1 v H1 ⟨q, As1, m6, m7, ea, em1, h1⟩ x1 o1 r1 => ?_
  subst ea em1
  have r1' : v = V.ref q := r1
  subst r1'
  obtain ⟨u0, e0, rr0⟩ := o1.mem.at_ q (.l As1) (by simp)
  obtain ⟨vs0, rfl, rr0⟩ := rr0.lst
  refine ⟨.inl ⟨rfl, _, .inl (.inl e0)⟩, ?_⟩
  refine h1.to o1 fun B m2 b H2 ⟨As, Bs, m4, m5, em, hB, hl, k⟩ x2 o2 r2 => ?_
  subst em
  obtain ⟨u, e1, rr⟩ := o2.mem.at_ q (.l As) (by simp)
  obtain ⟨vs, rfl, rr⟩ := rr.lst
  obtain ⟨p2, us, rfl, hp2, rb⟩ := hB _ _ _ _ o2.mem r2
  have l1 := rr.length
  have l2 := rb.length
  refine ⟨q, p2, vs, us, rfl, rfl, e1, hp2, Nat.le_of_lt (small1000 (by omega)), ?_⟩
  exact g _ _ _ _ k ((x1.trans x2).trans re_ext) ⟨o2.env.st re_ext, o2.mem.rewrite (show CellO X.K _ H2 (.l (As ++ Bs)) (.lst (vs ++ us)) from AllV.append rr rb)⟩ rfl
/-- xs.extend(e) with a tuple e -/
theorem we_extT {o : Expr} {apos : Pos} (h : WE X o ρ m fun A m1 => ∃ q As1 m6 m7, A = val (.ref q) ∧ m1 = m6 ++ (q, .l As1) :: m7 ∧ WE X e ρ m1 fun B m2 => ∃ As Bs m4 m5, m2 = m4 ++ (q, .l As) :: m5 ∧ B = tup Bs ∧ As.length + Bs.length ≤ 1000 ∧ Kt non (m4 ++ (q, .l (As ++ Bs)) :: m5))
    (hbase : attributeBase o "extend" X.env (eval o X.env) = eval o X.env)
    (hfew : ((backTo pos (starEach (e :: []) X.env)).all (fun x => !x.1) && (backToKw pos (keywordEach [] X.env)).all (fun x => x.1.isSome)
      && decide ((e :: ([] : List Expr)).length + ([] : List Keyword).length + (if ([] : List Keyword).isEmpty then 0 else 1) < 30)) = true)
    (hline : (apos.endLine == pos.line) = true) (hs : starEach (e :: []) X.env = (false, eval e X.env) :: starEach [] X.env) :
    WE X (.Call (.Attribute o "extend" apos) [e] [] pos) ρ m Kt := by
  intro fr σ H hh Q g
  refine le_E (pe_bm PySem.F.plainAttrs_list PySem.F.slot_list_extend PySem.F.type_list_extend mt_extT wpE_pe (pa_cons wpE_pe pa_nil hs) hbase hfew hline hs rfl) ?_
  refine h.to hh fun A m1 v H1 ⟨q, As1, m6, m7, ea, em1, h1⟩ x1 o1 r1 => ?_
  subst ea em1
  have r1' : v = V.ref q := r1
  subst r1'
  obtain ⟨u0, e0, rr0⟩ := o1.mem.at_ q (.l As1) (by simp)
  obtain ⟨vs0, rfl, rr0⟩ := rr0.lst
  refine ⟨.inl ⟨rfl, _, .inl (.inl e0)⟩, ?_⟩
  refine h1.to o1 fun B m2 b H2 ⟨As, Bs, m4, m5, em, hB, hl, k⟩ x2 o2 r2 => ?_
  subst em
  obtain ⟨u, e1, rr⟩ := o2.mem.at_ q (.l As) (by simp)
  obtain ⟨vs, rfl, rr⟩ := rr.lst
  subst hB
  obtain ⟨p2, us, rfl, hp2, rb⟩ := r2
  have l1 := rr.length
  have l2 := rb.length
  refine ⟨q, p2, vs, us, rfl, rfl, e1, hp2.sq, Nat.le_of_lt (small1000 (by omega)), ?_⟩
  exact g _ _ _ _ k ((x1.trans x2).trans re_ext) ⟨o2.env.st re_ext, o2.mem.rewrite (show CellO X.K _ H2 (.l (As ++ Bs)) (.lst (vs ++ us)) from AllV.append rr rb)⟩ rfl
theorem AllV.erase {K : PySem.W.Frag} {M : List Addr} {H : Hp} : ∀ {As : List AV} {vs : List V} (i : Nat), AllV K M H As vs → AllV K M H (As.eraseIdx i) (vs.eraseIdx i)
  | _, _, _, .nil => .nil
  | _, _, 0, .cons _ t => t
  | _, _, i + 1, .cons q t => .cons q (AllV.erase i t)
/-- xs.pop(i) -/
theorem we_pop {o : Expr} {apos : Pos} (h : WE X o ρ m fun A m1 => ∃ q As1 m6 m7, A = val (.ref q) ∧ m1 = m6 ++ (q, .l As1) :: m7 ∧ WE X e ρ m1 fun I m2 => ∃ As n j B m4 m5, I = AL.int n ∧ m2 = m4 ++ (q, .l As) :: m5 ∧ As.length ≤ 1000 ∧ ixN As.length n = some j ∧ As[j]? = some B ∧ Kt B (m4 ++ (q, .l (As.eraseIdx j)) :: m5))
    (hbase : attributeBase o "pop" X.env (eval o X.env) = eval o X.env)
    (hfew : ((backTo pos (starEach (e :: []) X.env)).all (fun x => !x.1) && (backToKw pos (keywordEach [] X.env)).all (fun x => x.1.isSome)
      && decide ((e :: ([] : List Expr)).length + ([] : List Keyword).length + (if ([] : List Keyword).isEmpty then 0 else 1) < 30)) = true)
    (hline : (apos.endLine == pos.line) = true) (hs : starEach (e :: []) X.env = (false, eval e X.env) :: starEach [] X.env) :
    WE X (.Call (.Attribute o "pop" apos) [e] [] pos) ρ m Kt := by
  intro fr σ H hh Q g
  refine le_E (pe_bm PySem.F.plainAttrs_list PySem.F.slot_list_pop PySem.F.type_list_pop mt_popAt wpE_pe (pa_cons wpE_pe pa_nil hs) hbase hfew hline hs rfl) ?_
  refine h.to hh fun A m1 v H1 ⟨q, As1, m6, m7, ea, em1, h1⟩ x1 o1 r1 => ?_
  subst ea em1
  have r1' : v = V.ref q := r1
  subst r1'
  obtain ⟨u0, e0, rr0⟩ := o1.mem.at_ q (.l As1) (by simp)
  obtain ⟨vs0, rfl, rr0⟩ := rr0.lst
  refine ⟨.inl ⟨rfl, _, .inl (.inl e0)⟩, ?_⟩
  refine h1.to o1 fun I m2 b H2 ⟨As, n, j, B, m4, m5, eI, em, hl, hj, hB, k⟩ x2 o2 r2 => ?_
  subst em eI
  obtain ⟨u, e1, rr⟩ := o2.mem.at_ q (.l As) (by simp)
  obtain ⟨vs, rfl, rr⟩ := rr.lst
  have r2' : b = V.int n := r2
  subst r2'
  have l1 := rr.length
  obtain ⟨z1, z2, z3, z4⟩ := ixN_seq hj
  obtain ⟨y, hy, ry⟩ := rr.get hB
  have big : (1000 : Int) < 2 ^ 63 := by decide
  refine ⟨q, vs, n, j, y, rfl, rfl, e1, by omega, by omega, by rw [← l1]; exact z1, hy, ?_⟩
  exact g _ _ _ _ k ((x1.trans x2).trans re_ext) ⟨o2.env.st re_ext, o2.mem.rewrite (show CellO X.K _ H2 (.l (As.eraseIdx j)) (.lst (vs.eraseIdx j)) from AllV.erase j rr)⟩ (B.st ry re_ext)
end
theorem few1 {e : Expr} (h : notStar e = true) (pos : Pos) (env : Env) : ((backTo pos (starEach (e :: []) env)).all (fun x => !x.1) && (backToKw pos (keywordEach [] env)).all (fun x => x.1.isSome)
      && decide ((e :: ([] : List Expr)).length + ([] : List Keyword).length + (if ([] : List Keyword).isEmpty then 0 else 1) < 30)) = true := by
  rw [star1 h]
  rfl
section
variable {G : Gx} {F : Nat} {N : List Str} {sc : Scope} {df : Bool} {pos ppos pos' p p2 tp : Pos} {e f g tg iter : Expr} {c a b : CE} {cs : CEs} {es : List Expr} {x y : Str} {i : Nat} {ss bs : CSs} {st : Stmt} {sts as : List Stmt}
/-- a name that holds a list of one's own -/
theorem ref_var {ρc : Ev} {n : Nat} (h : refAt ρc i = some n) : ρc[i]? = some (some (.r n)) := by
  unfold refAt at h
  split at h
  · rename_i k hk
    cases h
    exact hk
  · cases h
theorem we_refv (hN : N[i]? = some x) (hv : sc.names.lookup x = some .local ∨ sc.names.lookup x = some .cell ∨ sc.names.lookup x = some .free) (hd : (x == ("__debug__" : Str)) = false) (hcd : (x == ("__classdict__" : Str)) = false) {X : Cx} (at_ : G.At N sc df X) {ρc : Ev} {n : Nat} (h : refAt ρc i = some n) {mo : Mem} {qs : List Addr} {ρ : Rho} {m : Mem} (hr : RepE G.Z mo qs ρc ρ) :
    ∃ q, qs[n]? = some q ∧ Gives X (.Name x pos) ρ m fun A => A = val (.ref q) := by
  obtain ⟨A, h3, h4⟩ := hr.get (ref_var h)
  cases h4 with
  | r _ q hq => exact ⟨q, hq, fun Kt k => we_name at_ i hN hv h3 (k _ rfl) hd hcd⟩
theorem okS_app (hN : N[i]? = some x) (hv : sc.names.lookup x = some .local ∨ sc.names.lookup x = some .cell ∨ sc.names.lookup x = some .free) (hd : (x == ("__debug__" : Str)) = false) (hcd : (x == ("__classdict__" : Str)) = false) (hline : (pos'.endLine == p.line) = true) (hs : notStar e = true) (ha : OkE G N sc df a e) :
    OkS G F N sc df (.app i a) (.Expr (.Call (.Attribute (.Name x p2) "append" pos') [e] [] p) pos) := fun X at_ ρc ow out h mo qs ρ hl hr E hE => by
  simp only [evS] at h
  split at h
  · cases h
  · rename_i n hn
    split at h
    · rename_i v hx
      split at h
      · cases h
      · rename_i l hw
        split at h
        · rename_i hlen
          cases h
          obtain ⟨q, hq, hg⟩ := we_refv (pos := p2) (m := mo ++ memW G.Z qs ow) hN hv hd hcd at_ hn hr
          obtain ⟨m4, m5, e1, e2⟩ := memW_split (Z := G.Z) (mo := mo) hq hw
          refine ws_expr (we_append (hg.to fun A hA => ⟨q, absPs G.Z l, m4, m5, hA, e1, (ha X at_ _ _ _ hx _ _ _ hl hr).to fun B hB => ⟨absPs G.Z l, m4, m5, e1, by rw [absPs_len]; exact of_decide_eq_true hlen, ?_⟩⟩) rfl (few1 hs _ _) hline (star1 hs _ _) rfl) rfl
          have hh := hE qs ρ (by rw [List.length_set]; exact hl) hr
          rw [e2, absPs_app, absPs, absPs] at hh
          rw [hB.pE]
          exact hh
        · cases h
    · cases h
theorem okS_ext (hN : N[i]? = some x) (hv : sc.names.lookup x = some .local ∨ sc.names.lookup x = some .cell ∨ sc.names.lookup x = some .free) (hd : (x == ("__debug__" : Str)) = false) (hcd : (x == ("__classdict__" : Str)) = false) (hline : (pos'.endLine == p.line) = true) (hs : notStar e = true) (ha : OkE G N sc df a e) :
    OkS G F N sc df (.ext i a) (.Expr (.Call (.Attribute (.Name x p2) "extend" pos') [e] [] p) pos) := fun X at_ ρc ow out h mo qs ρ hl hr E hE => by
  simp only [evS] at h
  split at h
  · cases h
  · rename_i n hn
    split at h
    · cases h
    · rename_i r hx
      split at h
      · rename_i l hw
        split at h
        · rename_i hlen
          cases h
          obtain ⟨q, hq, hg⟩ := we_refv (pos := p2) (m := mo ++ memW G.Z qs ow) hN hv hd hcd at_ hn hr
          obtain ⟨m4, m5, e1, e2⟩ := memW_split (Z := G.Z) (mo := mo) hq hw
          refine ws_expr (we_extT (hg.to fun A hA => ⟨q, absPs G.Z l, m4, m5, hA, e1, (ha X at_ _ _ _ hx _ _ _ hl hr).to fun B hB => ⟨absPs G.Z l, absPs G.Z r, m4, m5, e1, isT hB, by rw [absPs_len, absPs_len]; exact of_decide_eq_true hlen, ?_⟩⟩) rfl (few1 hs _ _) hline (star1 hs _ _)) rfl
          have hh := hE qs ρ (by rw [List.length_set]; exact hl) hr
          rw [e2, absPs_app] at hh
          exact hh
        · cases h
      · cases h
    · rename_i v _ hx
      split at h
      · rename_i r l hr2 hw
        split at h
        · rename_i hlen
          cases h
          obtain ⟨q, hq, hg⟩ := we_refv (pos := p2) (m := mo ++ memW G.Z qs ow) hN hv hd hcd at_ hn hr
          obtain ⟨m4, m5, e1, e2⟩ := memW_split (Z := G.Z) (mo := mo) hq hw
          refine ws_expr (we_extend (hg.to fun A hA => ⟨q, absPs G.Z l, m4, m5, hA, e1, (ha X at_ _ _ _ hx _ _ _ hl hr).to fun B hB => ⟨absPs G.Z l, absPs G.Z r, m4, m5, e1, hB.ls hr2, by rw [absPs_len, absPs_len]; exact of_decide_eq_true hlen, ?_⟩⟩) rfl (few1 hs _ _) hline (star1 hs _ _)) rfl
          have hh := hE qs ρ (by rw [List.length_set]; exact hl) hr
          rw [e2, absPs_app] at hh
          exact hh
        · cases h
      · cases h
theorem eraseIdx_map {α β : Type} (f : α → β) : ∀ (l : List α) (j : Nat), (l.map f).eraseIdx j = (l.eraseIdx j).map f
  | [], _ => rfl
  | _ :: _, 0 => rfl
  | a :: l, j + 1 => by
    show f a :: (l.map f).eraseIdx j = f a :: (l.eraseIdx j).map f
    rw [eraseIdx_map f l j]
theorem okS_pop {k : Nat} (hK : N[k]? = some y) (hy : Loc' sc df y) (hN : N[i]? = some x) (hv : sc.names.lookup x = some .local ∨ sc.names.lookup x = some .cell ∨ sc.names.lookup x = some .free) (hd : (x == ("__debug__" : Str)) = false) (hcd : (x == ("__classdict__" : Str)) = false) (hline : (pos'.endLine == p.line) = true) (hs : notStar e = true) (ha : OkE G N sc df a e) :
    OkS G F N sc df (.pop k i a) (.Assign [.Name y tp] (.Call (.Attribute (.Name x p2) "pop" pos') [e] [] p) pos) := fun X at_ ρc ow out h mo qs ρ hl hr E hE => by
  simp only [evS] at h
  split at h
  · cases h
  · rename_i n hn
    split at h
    · rename_i z hx
      split at h
      · cases h
      · rename_i l hw
        split at h
        · cases h
        · rename_i j hj
          split at h
          · cases h
          · rename_i v hv2
            split at h
            · rename_i hsm
              cases h
              obtain ⟨q, hq, hg⟩ := we_refv (pos := p2) (m := mo ++ memW G.Z qs ow) hN hv hd hcd at_ hn hr
              obtain ⟨m4, m5, e1, e2⟩ := memW_split (Z := G.Z) (mo := mo) hq hw
              refine ws_set at_ k hK hy (we_pop (hg.to fun A hA => ⟨q, absPs G.Z l, m4, m5, hA, e1, (ha X at_ _ _ _ hx _ _ _ hl hr).to fun B hB => ⟨absPs G.Z l, z, j, absP G.Z v, m4, m5, isI hB, e1, by rw [absPs_len]; exact of_decide_eq_true hsm, by rw [absPs_len]; exact hj, by rw [absPs_map, List.getElem?_map, hv2]; rfl, ?_⟩⟩) rfl (few1 hs _ _) hline (star1 hs _ _)) rfl
              have hh := hE qs (ρ.set k (some (absP G.Z v))) (by rw [List.length_set]; exact hl) (hr.set (.p v) k)
              rw [e2] at hh
              have e3 : (absPs G.Z l).eraseIdx j = absPs G.Z (l.eraseIdx j) := by rw [absPs_map, absPs_map, eraseIdx_map]
              rw [e3]
              exact hh
            · cases h
    · cases h
/-- x[i] = e -/
def storeIx : Expr → Bool
  | .Constant .. => true
  | .Name .. => true
  | .BinOp .. => true
  | .UnaryOp .. => true
  | .Subscript .. => true
  | .Call .. => true
  | _ => false
theorem okS_store (hN : N[i]? = some x) (hv : sc.names.lookup x = some .local ∨ sc.names.lookup x = some .cell ∨ sc.names.lookup x = some .free) (hd : (x == ("__debug__" : Str)) = false) (hcd : (x == ("__classdict__" : Str)) = false) (hc : noComp e = true) (hi : storeIx f = true) (ha : OkE G N sc df a e) (hb : OkE G N sc df b f) :
    OkS G F N sc df (.store i b a) (.Assign [.Subscript (.Name x p2) f ppos] e pos) := fun X at_ ρc ow out h mo qs ρ hl hr E hE => by
  simp only [evS] at h
  split at h
  · rename_i v hx
    split at h
    · cases h
    · rename_i n hn
      split at h
      · rename_i z hz
        split at h
        · cases h
        · rename_i l hw
          split at h
          · cases h
          · rename_i j hj
            cases h
            obtain ⟨q, hq, hg⟩ := we_refv (pos := p2) (m := mo ++ memW G.Z qs ow) hN hv hd hcd at_ hn hr
            obtain ⟨m4, m5, e1, e2⟩ := memW_split (Z := G.Z) (mo := mo) hq hw
            refine ws_store ((ha X at_ _ _ _ hx _ _ _ hl hr).to fun B hB => hg.to fun A hA => (hb X at_ _ _ _ hz _ _ _ hl hr).to fun I hI => ⟨q, absPs G.Z l, m4, m5, z, j, hA, isI hI, e1, by rw [absPs_len]; exact hj, ?_⟩) (noComp_sole hc _ _ _) rfl rfl ?_
            · have hh := hE qs ρ (by rw [List.length_set]; exact hl) hr
              rw [e2] at hh
              rw [hB.pE]
              have e3 : (absPs G.Z l).set j (absP G.Z v) = absPs G.Z (l.set j v) := by rw [absPs_map, absPs_map, List.map_set]
              rw [e3]
              exact hh
            · intro v
              cases f with
              | Constant c k p => cases c <;> rfl
              | Name => rfl
              | BinOp => rfl
              | UnaryOp => rfl
              | Subscript => rfl
              | Call => rfl
              | _ => simp [storeIx] at hi
      · cases h
  · cases h
theorem okS_aug (hN : N[i]? = some x) (hx : Loc' sc df x) (ha : OkE G N sc df a e) : OkS G F N sc df (.aug i a) (.AugAssign (.Name x pos') .Add e pos) := fun X at_ ρc ow out h mo qs ρ hl hr E hE => by
  simp only [evS] at h
  split at h
  · rename_i n hn
    split at h
    · rename_i k hk
      cases h
      obtain ⟨A, h3, h4⟩ := hr.get hn
      rw [isI h4] at h3
      exact ws_augI at_ i hN hx h3 ((ha X at_ _ _ _ hk _ _ _ hl hr).to fun B hB => ⟨k, isI hB, hE qs _ hl (by have := hr.set (.p (.int (n + k))) i; rwa [absP] at this)⟩)
    · cases h
  · cases h
theorem okS_ife {t : Expr} (hc : OkT G N sc df c t) (h1 : OkSs G F N sc df ss sts) (h2 : OkSs G F N sc df bs as) : OkS G F N sc df (.ife c ss bs) (.If t sts as pos) := fun X at_ ρc ow out h mo qs ρ hl hr E hE => by
  simp only [evS] at h
  split at h
  · cases h
  · rename_i v hv
    split at h
    · cases h
    · rename_i ht
      exact ws_if (hc X at_ _ _ _ _ hv ht _ _ _ hl hr _ (h1 X at_ _ _ _ h _ _ _ hl hr E hE))
    · rename_i ht
      exact ws_if (hc X at_ _ _ _ _ hv ht _ _ _ hl hr _ (h2 X at_ _ _ _ h _ _ _ hl hr E hE))
/-! ### loops -/
theorem okS_fors {js : List Nat} {own : List (Str × Nat)} {it : CI} (hT : TgtOk N sc df js tg own) (hns : ∀ env x, foldedSetIterable iter env x = pure x) (hi : OkJ G N sc df it tg iter) (hb : OkSs G F N sc df ss sts) : OkS G F N sc df (.fors js it ss) (.For tg iter sts [] pos) := fun X at_ ρc ow out h mo qs ρ hl hr E hE => by
  simp only [evS] at h
  split at h
  · cases h
  · rename_i items hit
    let W : Nat → Rho → Mem → Prop := fun i ρ' m' => ∃ ρc' w' qs', qs'.length = w'.length ∧ RepE G.Z mo qs' ρc' ρ' ∧ m' = mo ++ memW G.Z qs' w' ∧ forL js (fun ρ w => evSs G.T F ss ρ w) (items.drop i) ρc' w' = some out
    refine ws_for at_ W (fun fr σ H o R gR => hi X at_ _ _ _ hit _ _ _ hl hr fr σ H o R fun Is m' J H' ⟨e1, e2⟩ x1 o1 it1 => gR Is m' J H' ?_ x1 o1 it1) (hns _)
    subst e1 e2
    refine ⟨⟨ρc, ow, qs, hl, hr, rfl, h⟩, fun i A ρ' m' hA ⟨ρc', w', qs', hl', hr', em, hgo⟩ => ?_, fun ρ' m' ⟨ρc', w', qs', hl', hr', em, hgo⟩ => ?_⟩
    · subst em
      rw [absPs_map, List.getElem?_map] at hA
      obtain ⟨v, hv, rfl⟩ := Option.map_eq_some_iff.mp hA
      have hd : items.drop i = v :: items.drop (i + 1) := by
        obtain ⟨hlt, hg⟩ := List.getElem?_eq_some_iff.mp hv
        rw [List.drop_eq_getElem_cons hlt, hg]
      rw [hd] at hgo
      simp only [forL] at hgo
      split at hgo
      · cases hgo
      · rename_i ρ1 hbind
        refine wg_of at_ hT (bindE_form hbind) ?_
        have hr1 := RepE.bind hbind hr'
        split at hgo
        · cases hgo
        · rename_i ρ2 w2 hbody
          exact hb X at_ _ _ _ hbody _ _ _ hl' hr1 _ fun qs3 ρ3 hl3 hr3 => ⟨ρ2, w2, qs3, hl3, hr3, rfl, hgo⟩
        · rename_i ρ2 w2 hbody
          exact hb X at_ _ _ _ hbody _ _ _ hl' hr1 _ fun qs3 ρ3 hl3 hr3 => ⟨ρ2, w2, qs3, hl3, hr3, rfl, hgo⟩
        · rename_i ρ2 w2 hbody
          cases hgo
          exact hb X at_ _ _ _ hbody _ _ _ hl' hr1 _ fun qs3 ρ3 hl3 hr3 => hE qs3 ρ3 hl3 hr3
        · rename_i v2 hbody
          cases hgo
          exact hb X at_ _ _ _ hbody _ _ _ hl' hr1 _ hE
    · subst em
      rw [absPs_len, List.drop_length] at hgo
      simp only [forL, Option.some.injEq] at hgo
      subst hgo
      exact hE qs' ρ' hl' hr'
theorem okS_whl {t : Expr} (hc : OkT G N sc df c t) (hb : OkSs G F N sc df ss sts) : OkS G F N sc df (.whl c ss) (.While t sts [] pos) := fun X at_ ρc ow out h mo qs ρ hl hr E hE => by
  simp only [evS] at h
  let W : Nat → Rho → Mem → Prop := fun n ρ' m' => ∃ ρc' w' qs', qs'.length = w'.length ∧ RepE G.Z mo qs' ρc' ρ' ∧ m' = mo ++ memW G.Z qs' w' ∧ whileN (fun ρ w => match evE G.T c ρ w with
      | none => none
      | some x => truth w x) (fun ρ w => evSs G.T F ss ρ w) n ρc' w' = some out
  refine ws_while at_ W F ⟨ρc, ow, qs, hl, hr, rfl, h⟩ fun n ρ' m' ⟨ρc', w', qs', hl', hr', em, hgo⟩ => ?_
  subst em
  cases n with
  | zero => simp [whileN] at hgo
  | succ n =>
    simp only [whileN] at hgo
    split at hgo
    · cases hgo
    · rename_i ht
      split at ht
      · cases ht
      · rename_i v hv
        cases hgo
        exact hc X at_ _ _ _ _ hv ht _ _ _ hl' hr' _ (hE qs' ρ' hl' hr')
    · rename_i ht
      split at ht
      · cases ht
      · rename_i v hv
        refine hc X at_ _ _ _ _ hv ht _ _ _ hl' hr' _ ?_
        show WSs X sts ρ' _ _
        split at hgo
        · cases hgo
        · rename_i ρ2 w2 hbody
          exact hb X at_ _ _ _ hbody _ _ _ hl' hr' _ fun qs3 ρ3 hl3 hr3 => ⟨n, Nat.lt_succ_self n, ρ2, w2, qs3, hl3, hr3, rfl, hgo⟩
        · rename_i ρ2 w2 hbody
          exact hb X at_ _ _ _ hbody _ _ _ hl' hr' _ fun qs3 ρ3 hl3 hr3 => ⟨n, Nat.lt_succ_self n, ρ2, w2, qs3, hl3, hr3, rfl, hgo⟩
        · rename_i ρ2 w2 hbody
          cases hgo
          exact hb X at_ _ _ _ hbody _ _ _ hl' hr' _ fun qs3 ρ3 hl3 hr3 => hE qs3 ρ3 hl3 hr3
        · rename_i v2 hbody
          cases hgo
          exact hb X at_ _ _ _ hbody _ _ _ hl' hr' _ hE
/-! ### return -/
theorem conv_freeze {Z : Cls} {mo : Mem} {qs : List Addr} {w : Own} {c : CV} {A : AV} {v : PV} (r : RepC Z mo qs c A) (h : freeze w c = some v) : Conv A (mo ++ memW Z qs w) (absP Z v) mo := by
  cases r with
  | p u => simp only [freeze, Option.some.injEq] at h; subst h; exact conv_drop
  | r n q hq =>
    simp only [freeze, Option.map_eq_some_iff] at h
    obtain ⟨l, h1, rfl⟩ := h
    rw [absP]
    exact conv_mut (memW_get hq h1)
  | o l q hq => simp [freeze] at h
theorem conv_freezes {Z : Cls} {mo : Mem} {qs : List Addr} {w : Own} {K : PySem.W.Frag} {fr : Frm} {H : Hp} (o : MemV K fr (mo ++ memW Z qs w) H) : ∀ {cs : List CV} {As : List AV} {ps : List PV} {vs : List V}, RepL Z mo qs cs As → freezes w cs = some ps → AllV K (Ms fr (mo ++ memW Z qs w)) H As vs → AllV K (Ms fr mo) H (absPs Z ps) vs
  | [], _, ps, _, .nil, h, r => by
    simp only [freezes, Option.some.injEq] at h
    subst h
    cases r
    rw [absPs]
    exact .nil
  | c :: cs, _, ps, _, .cons r t, h, .cons r1 t1 => by
    simp only [freezes] at h
    split at h
    · rename_i u us hu hus
      cases h
      rw [absPs]
      exact .cons (conv_freeze r hu K fr H _ o r1) (conv_freezes o t hus t1)
    · cases h
theorem okS_ret (ha : OkE G N sc df a e) : OkS G F N sc df (.ret a) (.Return (some e) pos) := fun X at_ ρc ow out h mo qs ρ hl hr E hE => by
  simp only [evS] at h
  split at h
  · cases h
  · rename_i v hv
    obtain ⟨u, hu, rfl⟩ := Option.map_eq_some_iff.mp h
    exact ws_ret ((ha X at_ _ _ _ hv _ _ _ hl hr).to fun A hA => hE qs ow A (conv_freeze hA hu))
theorem okS_retT {kk : Nat} (hL : OkL G N sc df cs es) : OkS G F N sc df (.retT cs) (.Return (some (.Tuple es kk p)) pos) := fun X at_ ρc ow out h mo qs ρ hl hr E hE => by
  simp only [evS] at h
  split at h
  · cases h
  · rename_i vs hv
    split at h
    · rename_i ps hps
      split at h
      · rename_i hsm
        cases h
        refine ws_ret (we_tup (hL X at_ _ _ _ hv _ _ _ hl hr _ fun As hAs => ⟨?_, hE qs ow _ fun K fr H x o hx => ?_⟩))
        · have h1 : As.length = vs.length := (Paired.length hAs).symm
          have h2 : ∀ {cs : List CV} {ps : List PV}, freezes ow cs = some ps → cs.length = ps.length := by
            intro cs
            induction cs with
            | nil => intro ps h; simp only [freezes, Option.some.injEq] at h; subst h; rfl
            | cons c cs ih =>
              intro ps h
              simp only [freezes] at h
              split at h
              · rename_i u us hu hus
                cases h
                simp [ih hus]
              · cases h
          rw [h1, h2 hps]
          exact of_decide_eq_true hsm
        · obtain ⟨q, xs, rfl, ht, hxs⟩ := hx
          rw [absP]
          obtain ⟨_, x⟩ := o.drop
          exact ⟨q, xs, rfl, ht.st x, conv_freezes o hAs hps hxs⟩
      · cases h
    · cases h
theorem memW_erase {Z : Cls} : ∀ {qs : List Addr} {w : Own} {n : Nat} {q : Addr} {l : List PV}, qs[n]? = some q → w[n]? = some l → ∃ m4 m5, memW Z qs w = m4 ++ (q, Cell.l (absPs Z l)) :: m5 ∧ memW Z (qs.eraseIdx n) (w.eraseIdx n) = m4 ++ m5
  | [], _, _, _, _, h, _ => by simp at h
  | _ :: _, [], _, _, _, _, h => by simp at h
  | q :: qs, l :: w, 0, _, _, h1, h2 => by
    simp at h1 h2
    subst h1 h2
    exact ⟨[], memW Z qs w, by simp [memW], by simp⟩
  | q :: qs, l :: w, n + 1, _, _, h1, h2 => by
    simp at h1 h2
    obtain ⟨m4, m5, e1, e2⟩ := memW_erase (Z := Z) h1 h2
    exact ⟨(q, Cell.l (absPs Z l)) :: m4, m5, by rw [memW, e1]; rfl, by rw [List.eraseIdx_cons_succ, List.eraseIdx_cons_succ, memW, e2]; rfl⟩
theorem RepC.erase {Z : Cls} {mo : Mem} {qs : List Addr} {n : Nat} {c : CV} {A : AV} (r : RepC Z mo qs c A) (h : isRef n (some c) = false) : ∃ c', shiftS n (some c) = some c' ∧ RepC Z mo (qs.eraseIdx n) c' A := by
  cases r with
  | p v => exact ⟨_, rfl, .p v⟩
  | o l q hq => exact ⟨_, rfl, .o l q hq⟩
  | r k q hq =>
    have hk : k ≠ n := by
      intro e
      subst e
      simp [isRef] at h
    by_cases hlt : n < k
    · refine ⟨.r (k - 1), by simp [shiftS, hlt], .r _ q ?_⟩
      rw [List.getElem?_eraseIdx]
      rw [if_neg (by omega)]
      rw [show k - 1 + 1 = k by omega]
      exact hq
    · refine ⟨.r k, by simp [shiftS, hlt], .r _ q ?_⟩
      rw [List.getElem?_eraseIdx, if_pos (by omega)]
      exact hq
theorem RepE.erase {Z : Cls} {mo : Mem} {qs : List Addr} {n : Nat} : ∀ {ρc : Ev} {ρ : Rho}, RepE Z mo qs ρc ρ → (ρc.all fun s => !isRef n s) = true → RepE Z mo (qs.eraseIdx n) (ρc.map (shiftS n)) ρ
  | _, _, .nil, _ => .nil
  | none :: _, _ :: _, .cons _ t, h => by
    rw [List.all_cons, Bool.and_eq_true] at h
    exact .cons trivial (RepE.erase t h.2)
  | some c :: _, some A :: _, .cons r t, h => by
    rw [List.all_cons, Bool.and_eq_true] at h
    obtain ⟨c', h1, h2⟩ := RepC.erase (n := n) r (by simpa using h.1)
    refine .cons ?_ (RepE.erase t h.2)
    rw [h1]
    exact h2
  | some c :: _, none :: _, .cons r t, _ => r.elim
theorem okSs_frz (h1 : OkSs G F N sc df ss sts) : OkSs G F N sc df (.frz i ss) sts := fun X at_ ρc ow out h mo qs ρ hl hr E hE => by
  simp only [evSs] at h
  split at h
  · exact h1 X at_ _ _ _ h mo qs ρ hl hr E hE
  split at h
  · cases h
  · rename_i ρ' w' hf
    unfold frzAt at hf
    split at hf
    · cases hf
    · rename_i n hn
      split at hf
      · cases hf
      · rename_i l hw
        split at hf
        · rename_i hall
          cases hf
          obtain ⟨A, h3, h4⟩ := hr.get (ref_var hn)
          cases h4 with
          | r _ q hq =>
            obtain ⟨m4, m5, e1, e2⟩ := memW_erase (Z := G.Z) hq hw
            refine wss_freeze i (m6 := mo ++ m4) (m7 := m5) (q := q) (As := absPs G.Z l) (by rw [e1, List.append_assoc]) h3 ?_
            have hlen : (qs.eraseIdx n).length = (ow.eraseIdx n).length := by
              have a1 := (List.getElem?_eq_some_iff.mp hq).1
              have a2 := (List.getElem?_eq_some_iff.mp hw).1
              rw [List.length_eraseIdx_of_lt a1, List.length_eraseIdx_of_lt a2, hl]
            have hr2 : RepE G.Z mo (qs.eraseIdx n) (((ρc.set i none).map (shiftS n)).set i (some (.p (.lst l)))) ((ρ.set i none).set i (some (absP G.Z (.lst l)))) := (RepE.erase (hr.forget i) hall).set (.p (.lst l)) i
            rw [List.set_set, absP] at hr2
            have key := h1 X at_ _ _ _ h mo (qs.eraseIdx n) _ hlen hr2 E hE
            rw [e2, ← List.append_assoc] at key
            exact key
        · cases hf
end
end EV
namespace EV
open PySem PySem.Spec L2 AL
open PyProof.Rows hiding St
section
variable {G : Gx} {F : Nat} {N : List Str} {sc : Scope} {df : Bool} {pos ppos pos' p p2 tp : Pos} {e f g tg iter : Expr} {c a b : CE} {cs : CEs} {es : List Expr} {x y : Str} {i j : Nat} {ss bs : CSs} {st : Stmt} {sts as : List Stmt}
theorem okS_par2 {kt k2 : Nat} {px py pt pt2 : Pos} (hi : N[i]? = some x) (hj : N[j]? = some y) (hij : i ≠ j) (hk : sc.kind = .function) (hx : sc.names.lookup x = some .local) (hy : sc.names.lookup y = some .local) (hne : (x == y) = false)
    (hln : (py.line == px.line) = true) (hst : ([e, f].any fun | .Starred .. => true | _ => false) = false) (h1 : [e, f].all (foldedForSure 8) = false) (h2 : [e, f].all (constantsAlone 8) = false) (hL : OkL G N sc df cs [e, f]) :
    OkS G F N sc df (.par [i, j] cs) (.Assign [.Tuple [.Name x px, .Name y py] kt pt] (.Tuple [e, f] k2 pt2) pos) := fun X at_ ρc ow out h mo qs ρ hl hr E hE => by
  simp only [evS] at h
  split at h
  · cases h
  · rename_i vs hv
    split at h
    · cases h
    · rename_i ps hp
      split at h
      · rename_i ρ' hs
        cases h
        refine ws_par at_ i j hi hj hij hk hx hy hne hln hst h1 h2 (hL X at_ _ _ _ hv _ _ _ hl hr _ fun As hAs => ?_) rfl
        have eA := allP_rep hp hAs
        subst eA
        have hlen := setAllE_len hs
        match ps, hlen with
        | [u1, u2], _ =>
          refine ⟨absP G.Z u1, absP G.Z u2, by rw [absPs, absPs, absPs], hE qs _ hl ?_⟩
          simp only [setAllE, Option.some.injEq] at hs
          subst hs
          exact (hr.set (.p u1) i).set (.p u2) j
      · cases h
/-! ### new lists by operators -/
theorem wn_bin {X : Cx} {ρ : Rho} {m : Mem} {Kl : KL} {op : Operator} {r : R2} {A0 B0 : AV → Prop} {As : List AV} (ho : OpR X (binaryOp op) r) (ha : Gives X e ρ m A0) (hb : Gives X f ρ m B0)
    (hr : ∀ A B (fr : Frm) (H : Hp) (x y : V) (Q : VK), A0 A → B0 B → MemV X.K fr m H → A.p X.K (Ms fr m) H x → B.p X.K (Ms fr m) H y → (∀ s vs, H s = none → AllV X.K (Ms fr m) H As vs → Q (.ref s) (upd H s (.lst vs))) → r x y H Q) (q : Kl As m) : WN X (.BinOp e op f pos) ρ m Kl := fun fr σ H o Q g => by
  refine le_E (pe_op ho wpE_pe wpE_pe) ?_
  refine (ha.to (Kt := fun A m' => A0 A ∧ m' = m) fun A hA => ⟨hA, rfl⟩).to o fun A m1 v H1 ⟨hA, e1⟩ x1 o1 r1 => ?_
  subst e1
  refine (hb.to (Kt := fun A m' => B0 A ∧ m' = m1) fun A hA => ⟨hA, rfl⟩).to o1 fun B m2 u H2 ⟨hB, e2⟩ x2 o2 r2 => ?_
  subst e2
  refine hr A B fr H2 v u Q hA hB o2.mem (A.st r1 x2) r2 fun s vs hs rv => ?_
  exact g As m2 s vs _ q ((x1.trans x2).trans (.push hs)) ⟨o2.env.st (.push hs), o2.mem.push hs⟩ (rv.st (.push hs))
theorem okN_add (ha : OkE G N sc df a e) (hb : OkE G N sc df b f) : OkN G N sc df (.bin .add a b) (.BinOp e .Add f pos) := fun X at_ ρc ow ps h mo qs ρ hl hr Kl q => by
  simp only [evE] at h
  split at h
  · cases h
  · rename_i x hx
    split at h
    · cases h
    · rename_i y hy
      split at h
      · rename_i u hu
        cases h
        have key : ∃ l r, asL ow x = some l ∧ asL ow y = some r ∧ l.length + r.length ≤ 1000 ∧ ps = l ++ r := by
          unfold binop at hu
          split at hu
          · cases hu
          · split at hu <;> cases hu
          · split at hu
            · rename_i l r hl2 hr2
              split at hu
              · rename_i hsm
                cases hu
                exact ⟨l, r, hl2, hr2, of_decide_eq_true hsm, rfl⟩
              · cases hu
            · cases hu
          all_goals contradiction
        obtain ⟨l, r, hl2, hr2, hsm, rfl⟩ := key
        refine wn_bin op_cat (ha X at_ _ _ _ hx _ _ _ hl hr) (hb X at_ _ _ _ hy _ _ _ hl hr) (As := absPs G.Z (l ++ r)) (fun A B fr H z1 z2 Q hA hB o r1 r2 k => ?_) q
        obtain ⟨p1, xs, rfl, t1, r1⟩ := hA.ls hl2 _ _ _ _ o r1
        obtain ⟨p2, ys, rfl, t2, r2⟩ := hB.ls hr2 _ _ _ _ o r2
        have l1 := r1.length
        have l2 := r2.length
        rw [absPs_len] at l1 l2
        exact ⟨p1, p2, xs, ys, rfl, rfl, t1, t2, Nat.le_of_lt (small1000 (by omega)), fun s hs => k s _ hs (by rw [absPs_app]; exact r1.append r2)⟩
      · cases h
theorem okN_mul (ha : OkE G N sc df a e) (hb : OkE G N sc df b f) : OkN G N sc df (.bin .mul a b) (.BinOp e .Mult f pos) := fun X at_ ρc ow ps h mo qs ρ hl hr Kl q => by
  simp only [evE] at h
  split at h
  · cases h
  · rename_i x hx
    split at h
    · cases h
    · rename_i y hy
      split at h
      · rename_i u hu
        cases h
        have key : ∃ l k, asL ow x = some l ∧ y = .p (.int k) ∧ 0 ≤ k ∧ k ≤ 1000 ∧ l.length * k.toNat ≤ 1000 ∧ ps = repL l k.toNat := by
          unfold binop at hu
          split at hu
          all_goals (try contradiction)
          · split at hu <;> cases hu
          · split at hu <;> cases hu
          split at hu
          case h_2 => cases hu
          rename_i hl2
          split at hu
          case isFalse => cases hu
          rename_i hsm
          cases hu
          simp only [Bool.and_eq_true, decide_eq_true_eq] at hsm
          exact ⟨_, _, hl2, rfl, hsm.1.1, hsm.1.2, hsm.2, rfl⟩
        obtain ⟨l, k, hl2, rfl, h0, h1, hsm, rfl⟩ := key
        refine wn_bin op_rep (ha X at_ _ _ _ hx _ _ _ hl hr) (hb X at_ _ _ _ hy _ _ _ hl hr) (As := absPs G.Z (repL l k.toNat)) (fun A B fr H z1 z2 Q hA hB o r1 r2 kk => ?_) q
        obtain ⟨p1, xs, rfl, t1, r1⟩ := hA.ls hl2 _ _ _ _ o r1
        rw [isI hB] at r2
        have l1 := r1.length
        rw [absPs_len] at l1
        have big : (1000 : Int) < 2 ^ 63 := by decide
        exact ⟨p1, k, xs, rfl, r2, t1, by omega, by omega, Nat.le_of_lt (small1000 (by rw [← l1]; exact hsm)), fun s hs => kk s _ hs (by rw [absPs_rep]; exact r1.rep _)⟩
      · cases h
end
/-! ### a def -/
theorem rep_some {Z : Cls} {mo : Mem} {qs : List Addr} : ∀ {vs : List CV} {As : List AV}, RepL Z mo qs vs As → RepE Z mo qs (vs.map some) (As.map some)
  | _, _, .nil => .nil
  | _, _, .cons r t => .cons r (rep_some t)
theorem rep_none {Z : Cls} {mo : Mem} {qs : List Addr} : ∀ n : Nat, RepE Z mo qs (List.replicate n none) (List.replicate n none)
  | 0 => .nil
  | n + 1 => .cons trivial (rep_none n)
theorem Paired.app {α β : Type} {R : α → β → Prop} : ∀ {as : List α} {bs : List β} {cs : List α} {ds : List β}, Paired R as bs → Paired R cs ds → Paired R (as ++ cs) (bs ++ ds)
  | _, _, _, _, .nil, h => h
  | _, _, _, _, .cons r t, h => .cons r (Paired.app t h)
/-- what is known of a def of the module -/
theorem fn_okA {G : Gx} {F : Nat} {x qual : Str} {N ps : List Str} {st : Stmt} {b : Fn} {f : Addr} {fd : FuncData} (F1 : Fun G.K x qual st f fd) (sc : FnScope N ps (defScope st)) (hn : b.ns = N.length) (hp : b.ps = ps.length) (hb : OkSs G F N (defScope st) true b.body (defBody st)) :
    FnOk G.P G.w G.K G.mg G.base CX0 (G.k + 1) f fd ps (spOf G.K (C_call G.Z fun vs => runFn G.T F b vs)) := by
  have hform : ∀ {vs : List CV} {v : PV}, runFn G.T F b vs = some v → vs.length = b.ps ∧ ∃ out, evSs G.T F b.body (vs.map some ++ List.replicate (b.ns - vs.length) none) [] = some out ∧ (out = .rt v ∨ ((∃ ρ w, out = .nx ρ w) ∧ v = .non)) := fun {vs v} h => by
    unfold runFn at h
    split at h
    · rename_i hl
      refine ⟨by simpa using hl, ?_⟩
      split at h
      · rename_i u hu
        cases h
        exact ⟨_, hu, .inl rfl⟩
      · rename_i ρ w hu
        cases h
        exact ⟨_, hu, .inr ⟨⟨_, _, rfl⟩, rfl⟩⟩
      · cases h
    · cases h
  refine fnOk F1 sc (fun As m Kt ⟨vs, v, hr, h, _⟩ => ?_) fun X a As m Kt ⟨vs, v, hr, h, q⟩ => ?_
  · rw [← hp, ← (hform h).1]
    exact (Paired.length hr).symm
  · obtain ⟨hl, out, ho, hout⟩ := hform h
    have hR : RepE G.Z m [] (vs.map some ++ List.replicate (b.ns - vs.length) none) (startR N As) := by
      unfold startR
      rw [hn, Paired.length hr]
      exact Paired.app (rep_some hr) (rep_none _)
    have key := hb X a _ _ _ ho m [] _ rfl hR (bodyE Kt) ?_
    · simpa [memW] using key
    · rcases hout with rfl | ⟨⟨ρ, w, rfl⟩, rfl⟩
      · intro qs w A cv
        exact ⟨_, m, memW G.Z qs w, rfl, cv, q⟩
      · intro qs ρ' hl' hr'
        rw [absP] at q
        exact ⟨m, memW G.Z qs w, rfl, q⟩
theorem FnC.weak {P : Program} {w : World} {K : PySem.W.Frag} {mg : Str → Option Value} {base : Heap} {j : Nat} {x : Str} {C C' : CT} (h : FnC P w K mg base j x C) (hc : ∀ As m Kt, C' As m Kt → C As m Kt) : FnC P w K mg base j x C' := by
  obtain ⟨f, fd, ps, h1, h2⟩ := h
  exact ⟨f, fd, ps, h1.imp (fun vs H Q E ⟨fr, As, m, Kt, hC, r⟩ => ⟨fr, As, m, Kt, hc As m Kt hC, r⟩), h2⟩
end EV
namespace EV
open PySem PySem.Spec L2 AL
open PyProof.Rows hiding St
theorem AllV.dropLast {K : PySem.W.Frag} {M : List Addr} {H : Hp} : ∀ {As : List AV} {vs : List V}, AllV K M H As vs → AllV K M H As.dropLast vs.dropLast
  | _, _, .nil => .nil
  | _, _, .cons _ .nil => .nil
  | _, _, .cons q (.cons r t) => .cons q (AllV.dropLast (.cons r t))
section
variable {X : Cx} {ρ : Rho} {m : Mem} {Kt : KA} {pos : Pos}
/-- xs.pop() -/
theorem we_popL {o : Expr} {apos : Pos} (h : WE X o ρ m fun A m1 => ∃ q As B m4 m5, A = val (.ref q) ∧ m1 = m4 ++ (q, .l As) :: m5 ∧ As[As.length - 1]? = some B ∧ Kt B (m4 ++ (q, .l As.dropLast) :: m5))
    (hbase : attributeBase o "pop" X.env (eval o X.env) = eval o X.env) (hline : (apos.endLine == pos.line) = true) : WE X (.Call (.Attribute o "pop" apos) [] [] pos) ρ m Kt := by
  intro fr σ H hh Q g
  refine le_E (pe_bm0 (r := rPop) PySem.F.plainAttrs_list PySem.F.slot_list_pop PySem.F.type_list_pop mt_pop wpE_pe hbase hline) ?_
  refine h.to hh fun A m1 v H1 ⟨q, As, B, m4, m5, ea, em, hB, k⟩ x1 o1 r1 => ?_
  subst ea em
  have r1' : v = V.ref q := r1
  subst r1'
  obtain ⟨u, e1, rr⟩ := o1.mem.at_ q (.l As) (by simp)
  obtain ⟨vs, rfl, rr⟩ := rr.lst
  have hl := rr.length
  obtain ⟨y, hy, ry⟩ := rr.get hB
  refine ⟨.inl ⟨rfl, _, .inl (.inl e1)⟩, q, vs, y, rfl, rfl, e1, by rw [← hl]; exact hy, ?_⟩
  exact g _ _ _ _ k (x1.trans re_ext) ⟨o1.env.st re_ext, o1.mem.rewrite (show CellO X.K _ H1 (.l As.dropLast) (.lst vs.dropLast) from AllV.dropLast rr)⟩ (B.st ry re_ext)
end
section
variable {G : Gx} {F : Nat} {N : List Str} {sc : Scope} {df : Bool} {pos ppos pos' p p2 p3 p4 tp : Pos} {e f g tg iter t : Expr} {c a b : CE} {cs : CEs} {es : List Expr} {x y z : Str} {i j l : Nat} {ss bs : CSs} {st : Stmt} {sts as : List Stmt}
theorem map_dropLast' {α β : Type} (f : α → β) : ∀ l : List α, (l.map f).dropLast = l.dropLast.map f
  | [] => rfl
  | [_] => rfl
  | a :: b :: l => by
    show f a :: ((b :: l).map f).dropLast = f a :: ((b :: l).dropLast).map f
    rw [map_dropLast' f (b :: l)]
theorem pop_core (hN : N[i]? = some x) (hv : sc.names.lookup x = some .local ∨ sc.names.lookup x = some .cell ∨ sc.names.lookup x = some .free) (hd : (x == ("__debug__" : Str)) = false) (hcd : (x == ("__classdict__" : Str)) = false) (hline : (pos'.endLine == p.line) = true) {X : Cx} (at_ : G.At N sc df X) {ρc : Ev} {ow : Own} {n : Nat} {vl : List PV} {v : PV} {mo : Mem} {qs : List Addr} {ρ : Rho} (hl : qs.length = ow.length) (hr : RepE G.Z mo qs ρc ρ) (hn : refAt ρc i = some n) (hw : ow[n]? = some vl) (hv2 : vl[vl.length - 1]? = some v) {Kt : KA}
    (q : Kt (absP G.Z v) (mo ++ memW G.Z qs (ow.set n vl.dropLast))) : WE X (.Call (.Attribute (.Name x p2) "pop" pos') [] [] p) ρ (mo ++ memW G.Z qs ow) Kt := by
  obtain ⟨a, hq, hg⟩ := we_refv (pos := p2) (m := mo ++ memW G.Z qs ow) hN hv hd hcd at_ hn hr
  obtain ⟨m4, m5, e1, e2⟩ := memW_split (Z := G.Z) (mo := mo) hq hw
  refine we_popL (hg.to fun A hA => ⟨a, absPs G.Z vl, absP G.Z v, m4, m5, hA, e1, by rw [absPs_len, absPs_map, List.getElem?_map, hv2]; rfl, ?_⟩) rfl hline
  rw [e2] at q
  have e3 : (absPs G.Z vl).dropLast = absPs G.Z vl.dropLast := by rw [absPs_map, absPs_map, map_dropLast']
  rw [e3]
  exact q
variable (hN : N[i]? = some x) (hv : sc.names.lookup x = some .local ∨ sc.names.lookup x = some .cell ∨ sc.names.lookup x = some .free) (hd : (x == ("__debug__" : Str)) = false) (hcd : (x == ("__classdict__" : Str)) = false) (hline : (pos'.endLine == p.line) = true)
include hN hv hd hcd hline
theorem okS_popx : OkS G F N sc df (.popx i) (.Expr (.Call (.Attribute (.Name x p2) "pop" pos') [] [] p) pos) := fun X at_ ρc ow out h mo qs ρ hl hr E hE => by
  simp only [evS] at h
  split at h
  · cases h
  · rename_i n hn
    split at h
    · cases h
    · rename_i vl hw
      split at h
      · cases h
      · rename_i v hv2
        cases h
        exact ws_expr (pop_core hN hv hd hcd hline at_ hl hr hn hw hv2 (hE qs ρ (by rw [List.length_set]; exact hl) hr)) rfl
theorem okS_popy {k : Nat} (hK : N[k]? = some y) (hy : Loc' sc df y) : OkS G F N sc df (.popy k i) (.Assign [.Name y tp] (.Call (.Attribute (.Name x p2) "pop" pos') [] [] p) pos) := fun X at_ ρc ow out h mo qs ρ hl hr E hE => by
  simp only [evS] at h
  split at h
  · cases h
  · rename_i n hn
    split at h
    · cases h
    · rename_i vl hw
      split at h
      · cases h
      · rename_i v hv2
        cases h
        exact ws_set at_ k hK hy (pop_core hN hv hd hcd hline at_ hl hr hn hw hv2 (hE qs _ (by rw [List.length_set]; exact hl) (hr.set (.p v) k))) rfl
theorem okS_popT {js : List Nat} {own : List (Str × Nat)} {elts : List Expr} {kk : Nat} (hT : TgtOk N sc df js (.Tuple elts kk tp) own) (hj : ∀ j, js ≠ [j]) : OkS G F N sc df (.popT js i) (.Assign [.Tuple elts kk tp] (.Call (.Attribute (.Name x p2) "pop" pos') [] [] p) pos) := fun X at_ ρc ow out h mo qs ρ hl hr E hE => by
  simp only [evS] at h
  split at h
  · cases h
  · rename_i n hn
    split at h
    · cases h
    · rename_i vl hw
      split at h
      · rename_i ps hv2
        split at h
        · rename_i ρ' hs
          cases h
          refine ws_asg (pop_core hN hv hd hcd hline at_ hl hr hn hw hv2 ?_) (noComp_sole rfl _ _ _) rfl rfl
          refine wg_of at_ hT (.inr ⟨hj, ps, rfl, setAllE_len hs⟩) (hE qs _ (by rw [List.length_set]; exact hl) ?_)
          refine RepE.bind (js := js) (v := .tup ps) ?_ hr
          unfold bindE
          split
          · rename_i j; exact absurd rfl (hj j)
          · exact hs
        · cases h
      · cases h
theorem okS_popI {k ci : Nat} {kk : Nat} {cpos : Pos} (hK : N[k]? = some y) (hy : Loc' sc df y) (hc : OkT G N sc df c t) (ha : OkE G N sc df a e) : OkS G F N sc df (.popI k i c ci a) (.Assign [.Name y tp] (.IfExp t (.Subscript (.Call (.Attribute (.Name x p2) "pop" pos') [] [] p) (.Constant (.int (ci : Nat)) kk cpos) p3) e p4) pos) := fun X at_ ρc ow out h mo qs ρ hl hr E hE => by
  simp only [evS] at h
  split at h
  · cases h
  · rename_i bv hb
    split at h
    · cases h
    · rename_i ht
      split at h
      · rename_i v hev
        cases h
        exact ws_set at_ k hK hy (we_ifexp (hc X at_ _ _ _ _ hb ht _ _ _ hl hr _ ((ha X at_ _ _ _ hev _ _ _ hl hr).to fun A hA => hE qs _ hl (hr.set hA k)))) rfl
      · cases h
    · rename_i ht
      split at h
      · cases h
      · rename_i n hn
        split at h
        · cases h
        · rename_i vl hw
          split at h
          · rename_i ps hv2
            split at h
            · rename_i u hu
              cases h
              refine ws_set at_ k hK hy (we_ifexp (hc X at_ _ _ _ _ hb ht _ _ _ hl hr _ (we_ix (pop_core hN hv hd hcd hline at_ hl hr hn hw hv2 ?_) (by exact fun _ _ => rfl)))) rfl
              refine we_int ?_
              exact ⟨_, _, _, by rw [absP]; exact isSq_tup, rfl, absPs_atI hu, hE qs _ (by rw [List.length_set]; exact hl) (hr.set (.p u) k)⟩
            · cases h
          · cases h
omit hN hv hd hcd hline
theorem okS_set2 {k : Const} {kk : Nat} {p1 p2 p3 : Pos} (hi : N[i]? = some x) (hj : N[j]? = some y) (hx : sc.names.lookup x = some .local) (hy : sc.names.lookup y = some .local) (ha : OkE G N sc df a (.Constant k kk p3)) : OkS G F N sc df (.set2 i j a) (.Assign [.Name x p1, .Name y p2] (.Constant k kk p3) pos) := fun X at_ ρc ow out h mo qs ρ hl hr E hE => by
  simp only [evS] at h
  split at h
  · rename_i v hev
    cases h
    intro fr σ H o D g
    refine le_S (ps_asg2 wpE_pe (pgn at_ i hi (.inl hx)) (pgn at_ j hj (.inl hy)) rfl rfl) ?_
    refine (ha X at_ _ _ _ hev _ _ _ hl hr).to (Kt := fun A m' => RepC G.Z mo qs v A ∧ m' = mo ++ memW G.Z qs ow) (fun A hA => ⟨hA, rfl⟩) fr σ H o _ fun A m1 w H1 ⟨hA, em⟩ x1 o1 r1 => ?_
    subst em
    exact g.nx _ _ _ H1 (hE qs _ hl ((hr.set hA i).set hA j)) x1 ⟨(o1.env.set r1 i).set r1 j, o1.mem⟩
  · cases h
end
end EV
namespace EV
open PySem PySem.Spec L2 AL
open PyProof.Rows hiding St
section
variable {P : Program} {w : World} {K : PySem.W.Frag} {mg : Str → Option Value} {base : Heap} {N : List Str} {sc : Scope} {df : Bool} {k : Nat} {X : Cx}
variable {ρ : Rho} {m : Mem} {Kt : KA} {pos : Pos} {E : EndsA}
theorem swap_three (a : At P w K mg base N sc df k X) {x y z : Str} {e f g : Expr} {px py pz pt : Pos} {kt k2 pt2} (hk : sc.kind = .function) (hx : sc.names.lookup x = some .local) (hy : sc.names.lookup y = some .local) (hz : sc.names.lookup z = some .local) (hne : (x == y) = false) (hne2 : (x == z) = false) (hne3 : (y == z) = false)
    (hl : (py.line == px.line) = true) (hl2 : (pz.line == px.line) = true) (hst : ([e, f, g].any fun | .Starred .. => true | _ => false) = false) (h1 : [e, f, g].all (foldedForSure 8) = false) (h2 : [e, f, g].all (constantsAlone 8) = false) :
    swappedStores [.Tuple [.Name x px, .Name y py, .Name z pz] kt pt] (.Tuple [e, f, g] k2 pt2) X.env = pure (some [x, y, z]) := by
  have kx : X.env.kindOf x = some .local := by show X.env.scope.names.lookup x = _; rw [a.sce]; exact hx
  have ky : X.env.kindOf y = some .local := by show X.env.scope.names.lookup y = _; rw [a.sce]; exact hy
  have kz : X.env.kindOf z = some .local := by show X.env.scope.names.lookup z = _; rw [a.sce]; exact hz
  have kf : X.env.blockKind = .function := by unfold Env.blockKind; rw [a.sce, hk]; rfl
  have e1 : ((some NameKind.local : Option NameKind) == some NameKind.local) = true := by decide
  have e2 : (px.line == px.line) = true := by simp
  have e3 : (Expr.Name x px).pos = px := rfl
  have sy : ∀ {u v : Str}, (u == v) = false → (v == u) = false := fun {u v} h => by
    rw [beq_eq_false_iff_ne] at h ⊢
    exact fun z => h z.symm
  have ed : ([x, y, z] : List Str).eraseDups = [x, y, z] := by
    simp [List.eraseDups_cons, hne, hne2, hne3, sy hne, sy hne2, sy hne3]
  unfold swappedStores
  simp only [kf, hst, h1, h2, kx, ky, kz, e1, e3, hl, hl2, e2, List.head?_cons, Option.map_some, Option.getD_some, List.filterMap_cons, List.filterMap_nil, Bool.and_self, if_true, ed]
  simp
  intro hc
  simp only [List.any_cons, List.any_nil, Bool.or_false, Bool.or_eq_false_iff] at hst
  rcases hc with hc | hc | hc
  · exact absurd (hst.1.symm.trans hc) Bool.false_ne_true
  · exact absurd (hst.2.1.symm.trans hc) Bool.false_ne_true
  · exact absurd (hst.2.2.symm.trans hc) Bool.false_ne_true
theorem ws_par3 (a : At P w K mg base N sc df k X) (i j l : Nat) {x y z : Str} {e f g : Expr} {px py pz pt : Pos} {kt k2 pt2} (hi : N[i]? = some x) (hj : N[j]? = some y) (hl' : N[l]? = some z) (hij : i ≠ j) (hil : i ≠ l) (hjl : j ≠ l) (hk : sc.kind = .function) (hx : sc.names.lookup x = some .local) (hy : sc.names.lookup y = some .local) (hz : sc.names.lookup z = some .local) (hne : (x == y) = false) (hne2 : (x == z) = false) (hne3 : (y == z) = false)
    (hl : (py.line == px.line) = true) (hl2 : (pz.line == px.line) = true) (hst : ([e, f, g].any fun | .Starred .. => true | _ => false) = false) (h1 : [e, f, g].all (foldedForSure 8) = false) (h2 : [e, f, g].all (constantsAlone 8) = false)
    (h : WA X [e, f, g] ρ m fun As m1 => ∃ A B C, As = [A, B, C] ∧ E.nx (((ρ.set i (some A)).set j (some B)).set l (some C)) m1)
    (hs : swapsWithSole [.Tuple [.Name x px, .Name y py, .Name z pz] kt pt] (.Tuple [e, f, g] k2 pt2) pos.line X.env = pure false := by rfl) : WS X (.Assign [.Tuple [.Name x px, .Name y py, .Name z pz] kt pt] (.Tuple [e, f, g] k2 pt2) pos) ρ m E := by
  intro fr σ H o D gD
  refine le_S (ps_par3 (i := i) (j := j) (l := l) a.calm (by rw [a.nm]; exact a.nd) (by rw [a.nm]; exact hi) (by rw [a.nm]; exact hj) (by rw [a.nm]; exact hl') hij hil hjl (by rw [a.sce]; exact hx) (by rw [a.sce]; exact hy) (by rw [a.sce]; exact hz) wpA_pa (swap_three a hk hx hy hz hne hne2 hne3 hl hl2 hst h1 h2) hs) ?_
  refine h fr σ H o _ fun As m1 vs H1 ⟨A, B, C, e1, q⟩ x1 o1 r1 => ?_
  subst e1
  cases r1 with
  | cons ra r1 =>
    cases r1 with
    | cons rb r1 =>
      cases r1 with
      | cons rc r1 =>
        cases r1
        exact ⟨_, _, _, rfl, gD.nx _ m1 _ H1 q x1 ⟨((o1.env.set ra i).set rb j).set rc l, o1.mem⟩⟩
end
section
variable {G : Gx} {F : Nat} {N : List Str} {sc : Scope} {df : Bool} {pos : Pos} {e f g : Expr} {cs : CEs} {x y z : Str} {i j l : Nat}
theorem okS_par3 {kt k2 : Nat} {px py pz pt pt2 : Pos} (hi : N[i]? = some x) (hj : N[j]? = some y) (hl' : N[l]? = some z) (hij : i ≠ j) (hil : i ≠ l) (hjl : j ≠ l) (hk : sc.kind = .function) (hx : sc.names.lookup x = some .local) (hy : sc.names.lookup y = some .local) (hz : sc.names.lookup z = some .local) (hne : (x == y) = false) (hne2 : (x == z) = false) (hne3 : (y == z) = false)
    (hln : (py.line == px.line) = true) (hln2 : (pz.line == px.line) = true) (hst : ([e, f, g].any fun | .Starred .. => true | _ => false) = false) (h1 : [e, f, g].all (foldedForSure 8) = false) (h2 : [e, f, g].all (constantsAlone 8) = false) (hL : OkL G N sc df cs [e, f, g]) :
    OkS G F N sc df (.par [i, j, l] cs) (.Assign [.Tuple [.Name x px, .Name y py, .Name z pz] kt pt] (.Tuple [e, f, g] k2 pt2) pos) := fun X at_ ρc ow out h mo qs ρ hl hr E hE => by
  simp only [evS] at h
  split at h
  · cases h
  · rename_i vs hv
    split at h
    · cases h
    · rename_i ps hp
      split at h
      · rename_i ρ' hs
        cases h
        refine ws_par3 at_ i j l hi hj hl' hij hil hjl hk hx hy hz hne hne2 hne3 hln hln2 hst h1 h2 (hL X at_ _ _ _ hv _ _ _ hl hr _ fun As hAs => ?_) rfl
        have eA := allP_rep hp hAs
        subst eA
        have hlen := setAllE_len hs
        match ps, hlen with
        | [u1, u2, u3], _ =>
          refine ⟨absP G.Z u1, absP G.Z u2, absP G.Z u3, by rw [absPs, absPs, absPs, absPs], hE qs _ hl ?_⟩
          simp only [setAllE, Option.some.injEq] at hs
          subst hs
          exact ((hr.set (.p u1) i).set (.p u2) j).set (.p u3) l
      · cases h
/-- the same with three captured names -/
theorem okS_par3c {kt k2 : Nat} {px py pz pt pt2 : Pos} {own : List (Str × Nat)} (hT : TgtOk N sc df [i, j, l] (.Tuple [.Name x px, .Name y py, .Name z pz] kt pt) own) (hk : sc.kind = .function) (hx : sc.names.lookup x = some .cell) (hy : sc.names.lookup y = some .cell) (hz : sc.names.lookup z = some .cell)
    (hL : OkL G N sc df cs [e, f, g]) : OkS G F N sc df (.par [i, j, l] cs) (.Assign [.Tuple [.Name x px, .Name y py, .Name z pz] kt pt] (.Tuple [e, f, g] k2 pt2) pos) := fun X at_ ρc ow out h mo qs ρ hl hr E hE => by
  simp only [evS] at h
  split at h
  · cases h
  · rename_i vs hv
    split at h
    · cases h
    · rename_i ps hp
      split at h
      · rename_i ρ' hs
        cases h
        have hlen := setAllE_len hs
        have hsm : small ps = true := by
          have : ps.length = 3 := hlen.symm
          unfold small
          rw [this]; rfl
        have hv2 : evE G.T (.tup cs) ρc ow = some (.p (.tup ps)) := by
          simp only [evE]
          rw [hv]
          simp only [hp, hsm, if_true]
        refine ws_asg ((okE_tup hL X at_ _ _ _ hv2 _ _ _ hl hr).to fun A hA => ?_) (noComp_sole rfl _ _ _) (swap_no3 at_ hk hx hy hz) rfl
        rw [hA.pE]
        refine wg_of at_ hT (.inr ⟨fun j => by simp, ps, rfl, hlen⟩) (hE qs _ hl ?_)
        refine RepE.bind (js := [i, j, l]) (v := .tup ps) ?_ hr
        exact hs
      · cases h
end
end EV
/-! EZ: enumerate over a zip of two lists or tuples. -/
namespace EZ
open PySem PySem.F L2 AL ZM
open PyProof.Rows hiding St
abbrev ZV (h : Heap) (z p q : Addr) (v : Value) (f : Bool) : Prop :=
  h.get? z = some { cls := .type "zip", dict := none, data := .fields #[v, .bool f, .bool false, .ref p, .ref q], slots := #[] }
/-- where a zip stands: its pair is at home, or given out -/
def ZSt (h : Heap) (z p q : Addr) : Prop := ∃ v f, ZV h z p q v f ∧ (v = .none ∨ ∃ T : Addr, v = rawInt T)
section
variable {prog : Program} {w : World} {A : Around} {E : Value → Shared → Prop} {s : Shared}
theorem gone {z p q T : Addr} {f : Bool} {R : Bool → Shared → Prop} (gz : ZV s.heap z p q (rawInt T) f) (hT : s.heap.get? T = none) (h : R true s) : wpAny (model prog w) A (Builtin.SmallTypes.ownedTupleIsFree (.ref z)) R E s := by
  unfold Builtin.SmallTypes.ownedTupleIsFree
  refine wpAny_bind (wpAny_field gz rfl (x := rawInt T) rfl ?_)
  show wpAny _ _ (loadIfAlive ((T : Int).toNat) >>= _) _ _ _
  rw [Int.toNat_natCast]
  have e : wpAny (model prog w) A (loadIfAlive T) (fun r s1 => r = none ∧ s1 = s) E s := fun _ _ _ => ⟨hT, rfl⟩
  refine wpAny_bind (thn e fun r s1 ⟨e1, e2⟩ => ?_)
  subst e1 e2
  simp only [Option.isNone_none, if_true]
  exact wpAny_pure h
theorem home {z p q : Addr} {f : Bool} {R : Bool → Shared → Prop} (gz : ZV s.heap z p q .none f) (h : R true s) : wpAny (model prog w) A (Builtin.SmallTypes.ownedTupleIsFree (.ref z)) R E s := by
  unfold Builtin.SmallTypes.ownedTupleIsFree
  exact wpAny_bind (wpAny_field gz rfl (x := .none) rfl (wpAny_pure h))
/-- a step while the pair is free -/
theorem step_free {k1 k2 f : Bool} {v : Value} {z p q i1 i2 l1 l2 : Addr} {n1 n2 : Nat} {xs ys : Array Value} {x y u t : Value} {R : Value → Shared → Prop} (D : ZipApart z p q i1 i2 l1 l2) (gz : ZV s.heap z p q v f) (fr : ∀ R' : Bool → Shared → Prop, R' true s → wpAny (model prog w) A (Builtin.SmallTypes.ownedTupleIsFree (.ref z)) R' E s) (gp : IsPair s.heap p (.ref i1) (.ref i2)) (gq : IsPair s.heap q u t)
    (g1 : Itr k1 s.heap i1 l1 n1) (g2 : Itr k2 s.heap i2 l2 n2) (gl1 : Seqs k1 s.heap l1 xs) (gl2 : Seqs k2 s.heap l2 ys) (ex : xs[n1]? = some x) (ey : ys[n2]? = some y)
    (fin : ∀ h', ZSt h' z p q → IsPair h' q x y → Itr k1 h' i1 l1 (n1 + 1) → Itr k2 h' i2 l2 (n2 + 1) → IsPair h' s.heap.objs.size x y → h'.objs.size = s.heap.objs.size + 1 → (∀ c o, c ≠ z → c ≠ q → c ≠ i1 → c ≠ i2 → s.heap.get? c = some o → h'.get? c = some o) → R (.ref s.heap.objs.size) { s with heap := h' }) :
    wpAny (model prog w) A (Builtin.«zip.__next__» ⟨[.ref z], []⟩) (fun out s' => ∃ r, out = .done (.ret r) ∧ R r s') E s := by
  show wpAny _ _ (field (.ref z) 2 >>= _) _ _ s
  refine wpAny_bind (wpAny_field (x := .bool false) gz rfl rfl ?_); show wpAny _ _ (field (.ref z) 3 >>= _) _ _ s
  refine wpAny_bind (wpAny_field (x := .ref p) gz rfl rfl ?_); refine wpAny_bind (wpAny_seqItems gp rfl ?_)
  show wpAny _ _ (Builtin.SmallTypes.ownedTupleIsFree (.ref z) >>= _) _ _ s
  refine wpAny_bind (fr _ ?_); simp only [if_true]
  refine wpAny_bind (wpAny_rule ?_); refine wpAny_bind (wpAny_field (x := .ref q) gz rfl rfl ?_)
  refine wpAny_bind (wpAny_setField_rec gz (by simp) fun ha gza sa => ?_)
  have gza' : ZV ha z p q .ellipsis f := gza
  refine wpAny_bind ?_; simp only [List.zipIdx_cons, List.zipIdx_nil, List.forIn_cons, List.forIn_nil]
  refine wpAny_bind (wpAny_bind (wpAny_onRaise ?_)); show wpAny _ _ (Builtin.SmallTypes.nextOf (.ref i1) >>= _) _ _ _
  refine wpAny_bind (one_item (g1.ext sa.extBut D.i1z) (gl1.ext sa.extBut D.l1z) ex fun hb g1b sb => wpAny_pure ?_)
  have gqb : IsPair hb q u t := sb.extBut _ _ D.TOi1 (sa.extBut _ _ D.TOz gq)
  refine wpAny_bind (wpAny_seqItems gqb rfl ?_); refine wpAny_bind (wpAny_updateSeq_pair gqb fun hc gqc sc => ?_)
  have gqc' : IsPair hc q x t := gqc
  refine wpAny_bind (wpAny_letGo (wpAny_pure ?_)); refine wpAny_bind (wpAny_bind (wpAny_onRaise ?_)); show wpAny _ _ (Builtin.SmallTypes.nextOf (.ref i2) >>= _) _ _ _
  refine wpAny_bind (one_item (((g2.ext sa.extBut D.i2z).ext sb.extBut D.i12.symm).ext sc.extBut D.TOi2.symm) (((gl2.ext sa.extBut D.l2z).ext sb.extBut D.l2i1).ext sc.extBut D.l2TO) ey fun hd g2d sd => wpAny_pure ?_)
  have gqd : IsPair hd q x t := sd.extBut _ _ D.TOi2 gqc'
  refine wpAny_bind (wpAny_seqItems gqd rfl ?_); refine wpAny_bind (wpAny_updateSeq_pair gqd fun he gqe se => ?_)
  have gqe' : IsPair he q x y := gqe
  refine wpAny_bind (wpAny_letGo (wpAny_pure (wpAny_pure ?_))); refine wpAny_bind (wpAny_seqItems gqe' rfl ?_); refine wpAny_bind (wpAny_newTuple ?_)
  have esz : he.objs.size = s.heap.objs.size := by rw [se.1, sd.1, sc.1, sb.1, sa.1]
  have gze : ZV he z p q .ellipsis f := se.extBut _ _ D.TOz.symm (sd.extBut _ _ D.i2z.symm (sc.extBut _ _ D.TOz.symm (sb.extBut _ _ D.i1z.symm gza')))
  have keep : ∀ c o, c ≠ z → c ≠ q → c ≠ i1 → c ≠ i2 → s.heap.get? c = some o → he.get? c = some o := fun c o a1 a2 a3 a4 b => se.extBut _ _ a2 (sd.extBut _ _ a4 (sc.extBut _ _ a2 (sb.extBut _ _ a3 (sa.extBut _ _ a1 b))))
  have g1e : Itr k1 he i1 l1 (n1 + 1) := ((g1b.ext sc.extBut D.TOi1.symm).ext sd.extBut D.i12).ext se.extBut D.TOi1.symm
  have g2e : Itr k2 he i2 l2 (n2 + 1) := g2d.ext se.extBut D.TOi2.symm
  have zlt : z < he.objs.size := Heap.lt_size gze
  show wpAny _ _ (Builtin.SmallTypes.ownedTupleHandOut (.ref z) (.ref he.objs.size) >>= _) _ _ _
  refine wpAny_bind ?_; unfold Builtin.SmallTypes.ownedTupleHandOut
  have gzf : ZV (he.push { cls := .type "tuple", data := .seq #[x, y] }) z p q .ellipsis f := Heap.get?_push_of_some _ gze
  refine wpAny_bind (wpAny_setField_rec gzf (by simp) fun hg gzg sg => ?_)
  have gzg' : ZV hg z p q (rawInt he.objs.size) f := gzg
  refine wpAny_setField_rec gzg' (by simp) fun hk gzk sk => ?_
  have gzk' : ZV hk z p q (rawInt he.objs.size) false := gzk
  have up : ∀ c o, c ≠ z → he.get? c = some o → hk.get? c = some o := fun c o a1 b => sk.extBut _ _ a1 (sg.extBut _ _ a1 (Heap.get?_push_of_some _ b))
  have gT : IsPair hk he.objs.size x y := sk.extBut _ _ (Nat.ne_of_gt zlt) (sg.extBut _ _ (Nat.ne_of_gt zlt) (Heap.get?_push_size _ rfl))
  have ek : hk.objs.size = he.objs.size + 1 := by rw [sk.1, sg.1, Heap.size_push]
  rw [esz] at gT ek
  refine wpAny_pure ⟨_, rfl, ?_⟩; show R (.ref he.objs.size) _; rw [esz]
  exact fin hk ⟨_, _, gzk', .inr ⟨_, rfl⟩⟩ (up _ _ D.TOz gqe') (g1e.to fun o b => up _ o D.i1z b) (g2e.to fun o b => up _ o D.i2z b) gT ek fun c o a1 a2 a3 a4 b => up c o a1 (keep c o a1 a2 a3 a4 b)
/-- a step while the last pair is still out -/
theorem step_out {k1 k2 f : Bool} {z p q T i1 i2 l1 l2 : Addr} {oT : Obj} {n1 n2 : Nat} {xs ys : Array Value} {x y u t : Value} {R : Value → Shared → Prop} (D : ZipApart z p q i1 i2 l1 l2) (gz : ZV s.heap z p q (rawInt T) f) (hT : s.heap.get? T = some oT) (gp : IsPair s.heap p (.ref i1) (.ref i2)) (gq : IsPair s.heap q u t)
    (g1 : Itr k1 s.heap i1 l1 n1) (g2 : Itr k2 s.heap i2 l2 n2) (gl1 : Seqs k1 s.heap l1 xs) (gl2 : Seqs k2 s.heap l2 ys) (ex : xs[n1]? = some x) (ey : ys[n2]? = some y)
    (fin : ∀ h', ZSt h' z p q → IsPair h' q u t → Itr k1 h' i1 l1 (n1 + 1) → Itr k2 h' i2 l2 (n2 + 1) → IsPair h' s.heap.objs.size x y → h'.objs.size = s.heap.objs.size + 1 → (∀ c o, c ≠ z → c ≠ q → c ≠ i1 → c ≠ i2 → s.heap.get? c = some o → h'.get? c = some o) → R (.ref s.heap.objs.size) { s with heap := h' }) :
    wpAny (model prog w) A (Builtin.«zip.__next__» ⟨[.ref z], []⟩) (fun out s' => ∃ r, out = .done (.ret r) ∧ R r s') E s := by
  show wpAny _ _ (field (.ref z) 2 >>= _) _ _ s
  refine wpAny_bind (wpAny_field (x := .bool false) gz rfl rfl ?_); show wpAny _ _ (field (.ref z) 3 >>= _) _ _ s
  refine wpAny_bind (wpAny_field (x := .ref p) gz rfl rfl ?_); refine wpAny_bind (wpAny_seqItems gp rfl ?_)
  show wpAny _ _ (Builtin.SmallTypes.ownedTupleIsFree (.ref z) >>= _) _ _ s
  refine wpAny_bind (wpAny_tupleHeld_zip gz hT fun ha gza sa => ?_); simp only [Bool.false_eq_true, if_false]
  refine wpAny_bind ?_; rw [← Array.forIn_toList]; simp only [List.forIn_cons, List.forIn_nil]
  refine wpAny_bind (wpAny_bind (wpAny_holding ?_)); show wpAny _ _ (Builtin.SmallTypes.nextOf (.ref i1) >>= _) _ _ _
  refine wpAny_bind (one_item (s := { s with heap := ha }) (g1.ext sa.extBut D.i1z) (gl1.ext sa.extBut D.l1z) ex fun hb g1b sb => wpAny_pure (wpAny_pure ?_))
  refine wpAny_bind (wpAny_bind (wpAny_holding ?_)); show wpAny _ _ (Builtin.SmallTypes.nextOf (.ref i2) >>= _) _ _ _
  refine wpAny_bind (one_item (s := { s with heap := hb }) ((g2.ext sa.extBut D.i2z).ext sb.extBut D.i12.symm) ((gl2.ext sa.extBut D.l2z).ext sb.extBut D.l2i1) ey fun hc g2c sc => wpAny_pure (wpAny_pure (wpAny_pure ?_)))
  show wpAny _ _ (newTuple [x, y] >>= _) _ _ _
  refine wpAny_bind (wpAny_newTuple ?_)
  have esz : hc.objs.size = s.heap.objs.size := by rw [sc.1, sb.1, sa.1]
  have gzc : ZV hc z p q (rawInt T) true := sc.extBut _ _ D.i2z.symm (sb.extBut _ _ D.i1z.symm gza)
  have keep : ∀ c o, c ≠ z → c ≠ q → c ≠ i1 → c ≠ i2 → s.heap.get? c = some o → hc.get? c = some o := fun c o a1 _ a3 a4 b => sc.extBut _ _ a4 (sb.extBut _ _ a3 (sa.extBut _ _ a1 b))
  have g1c : Itr k1 hc i1 l1 (n1 + 1) := g1b.ext sc.extBut D.i12
  have gqc : IsPair hc q u t := sc.extBut _ _ D.TOi2 (sb.extBut _ _ D.TOi1 (sa.extBut _ _ D.TOz gq))
  refine wpAny_pure ⟨_, rfl, ?_⟩; show R (.ref hc.objs.size) _
  have gT : IsPair (hc.push { cls := .type "tuple", data := .seq #[x, y] }) hc.objs.size x y := Heap.get?_push_size _ rfl
  have ek : (hc.push { cls := .type "tuple", data := .seq #[x, y] }).objs.size = hc.objs.size + 1 := Heap.size_push ..
  rw [esz] at gT ek ⊢
  exact fin _ ⟨_, _, Heap.get?_push_of_some _ gzc, .inr ⟨_, rfl⟩⟩ (Heap.get?_push_of_some _ gqc) (g1c.to fun o b => Heap.get?_push_of_some _ b) (g2c.to fun o b => Heap.get?_push_of_some _ b) gT ek fun c o a1 a2 a3 a4 b => Heap.get?_push_of_some _ (keep c o a1 a2 a3 a4 b)
theorem step_item {k1 k2 : Bool} {z p q i1 i2 l1 l2 : Addr} {n1 n2 : Nat} {xs ys : Array Value} {x y u t : Value} {R : Value → Shared → Prop} (D : ZipApart z p q i1 i2 l1 l2) (gz : ZSt s.heap z p q) (gp : IsPair s.heap p (.ref i1) (.ref i2)) (gq : IsPair s.heap q u t)
    (g1 : Itr k1 s.heap i1 l1 n1) (g2 : Itr k2 s.heap i2 l2 n2) (gl1 : Seqs k1 s.heap l1 xs) (gl2 : Seqs k2 s.heap l2 ys) (ex : xs[n1]? = some x) (ey : ys[n2]? = some y)
    (fin : ∀ h', ZSt h' z p q → (∃ u' t', IsPair h' q u' t') → Itr k1 h' i1 l1 (n1 + 1) → Itr k2 h' i2 l2 (n2 + 1) → IsPair h' s.heap.objs.size x y → h'.objs.size = s.heap.objs.size + 1 → (∀ c o, c ≠ z → c ≠ q → c ≠ i1 → c ≠ i2 → s.heap.get? c = some o → h'.get? c = some o) → R (.ref s.heap.objs.size) { s with heap := h' }) :
    wpAny (model prog w) A (Builtin.SmallTypes.nextOf (.ref z)) R E s := by
  obtain ⟨v, f, gz, hv⟩ := gz
  have T : s.TypeIs (.ref z) "zip" := ⟨_, gz, rfl⟩
  unfold Builtin.SmallTypes.nextOf
  refine wpAny_bind (wpAny_callSpecial?_slot (name := Str.ofString "__next__") T F.slot_zip_next (wpAny_call_entry F.slot_zip_next T F.entry_zip_next ?_ (F.args_zip_next_1 _)))
  rcases hv with rfl | ⟨O, rfl⟩
  · exact step_free D gz (fun R' h => home gz h) gp gq g1 g2 gl1 gl2 ex ey fun h' b1 b2 b3 b4 b5 b6 b7 => wpAny_pure (fin h' b1 ⟨_, _, b2⟩ b3 b4 b5 b6 b7)
  · cases hO : s.heap.get? O with
    | none => exact step_free D gz (fun R' h => gone gz hO h) gp gq g1 g2 gl1 gl2 ex ey fun h' b1 b2 b3 b4 b5 b6 b7 => wpAny_pure (fin h' b1 ⟨_, _, b2⟩ b3 b4 b5 b6 b7)
    | some oT => exact step_out D gz hO gp gq g1 g2 gl1 gl2 ex ey fun h' b1 b2 b3 b4 b5 b6 b7 => wpAny_pure (fin h' b1 ⟨_, _, b2⟩ b3 b4 b5 b6 b7)
theorem end_free {k1 k2 f : Bool} {v : Value} {z p q i1 i2 l1 l2 : Addr} {n1 n2 : Nat} {xs ys : Array Value} {u t : Value} {R : Fin → Shared → Prop} (hh : A.handled = none) (D : ZipApart z p q i1 i2 l1 l2) (gz : ZV s.heap z p q v f) (fr : ∀ R' : Bool → Shared → Prop, R' true s → wpAny (model prog w) A (Builtin.SmallTypes.ownedTupleIsFree (.ref z)) R' E s) (gp : IsPair s.heap p (.ref i1) (.ref i2)) (gq : IsPair s.heap q u t)
    (g1 : Itr k1 s.heap i1 l1 n1) (g2 : Itr k2 s.heap i2 l2 n2) (gl1 : Seqs k1 s.heap l1 xs) (gl2 : Seqs k2 s.heap l2 ys) (none' : xs[n1]? = none ∨ ys[n2]? = none)
    (fin : ∀ h' e, (∀ c o, c ≠ z → c ≠ q → c ≠ i1 → c ≠ i2 → s.heap.get? c = some o → h'.get? c = some o) → (∃ o, h'.get? e = some o ∧ o.cls = .type "StopIteration") → E (.ref e) { s with heap := h' }) :
    wpAny (model prog w) A (Builtin.«zip.__next__» ⟨[.ref z], []⟩) R E s := by
  show wpAny _ _ (field (.ref z) 2 >>= _) _ _ s
  refine wpAny_bind (wpAny_field (x := .bool false) gz rfl rfl ?_); show wpAny _ _ (field (.ref z) 3 >>= _) _ _ s
  refine wpAny_bind (wpAny_field (x := .ref p) gz rfl rfl ?_); refine wpAny_bind (wpAny_seqItems gp rfl ?_)
  show wpAny _ _ (Builtin.SmallTypes.ownedTupleIsFree (.ref z) >>= _) _ _ s
  refine wpAny_bind (fr _ ?_); simp only [if_true]
  refine wpAny_bind (wpAny_rule ?_); refine wpAny_bind (wpAny_field (x := .ref q) gz rfl rfl ?_)
  refine wpAny_bind (wpAny_setField_rec gz (by simp) fun ha gza sa => ?_)
  have gza' : ZV ha z p q .ellipsis f := gza
  refine wpAny_bind ?_; simp only [List.zipIdx_cons, List.zipIdx_nil, List.forIn_cons, List.forIn_nil]
  refine wpAny_bind (wpAny_bind (wpAny_onRaise ?_)); show wpAny _ _ (Builtin.SmallTypes.nextOf (.ref i1) >>= _) _ _ _
  cases ex : xs[n1]? with
  | none =>
    refine wpAny_bind (one_end hh (g1.ext sa.extBut D.i1z) (gl1.ext sa.extBut D.l1z) ex fun hb e sb ⟨oe, e1, e2⟩ => ?_)
    have gzb : ZV hb z p q .ellipsis f := sb _ _ D.i1z.symm gza'
    have ne : e ≠ z := fun y => by subst y; rw [gzb] at e1; cases e1; simp at e2
    exact wpAny_setField_rec gzb (by simp) fun hc _ sc => fin hc e (fun c o a1 _ a3 _ b => sc.extBut _ _ a1 (sb _ _ a3 (sa.extBut _ _ a1 b))) ⟨oe, sc.extBut _ _ ne e1, e2⟩
  | some x =>
    have ey : ys[n2]? = none := none'.elim (fun y => by rw [ex] at y; cases y) id
    refine wpAny_bind (one_item (g1.ext sa.extBut D.i1z) (gl1.ext sa.extBut D.l1z) ex fun hb g1b sb => wpAny_pure ?_)
    have gqb : IsPair hb q u t := sb.extBut _ _ D.TOi1 (sa.extBut _ _ D.TOz gq)
    refine wpAny_bind (wpAny_seqItems gqb rfl ?_); refine wpAny_bind (wpAny_updateSeq_pair gqb fun hc gqc sc => ?_)
    refine wpAny_bind (wpAny_letGo (wpAny_pure ?_)); refine wpAny_bind (wpAny_bind (wpAny_onRaise ?_)); show wpAny _ _ (Builtin.SmallTypes.nextOf (.ref i2) >>= _) _ _ _
    refine wpAny_bind (one_end hh (((g2.ext sa.extBut D.i2z).ext sb.extBut D.i12.symm).ext sc.extBut D.TOi2.symm) (((gl2.ext sa.extBut D.l2z).ext sb.extBut D.l2i1).ext sc.extBut D.l2TO) ey fun hd e sd ⟨oe, e1, e2⟩ => ?_)
    have gzd : ZV hd z p q .ellipsis f := sd _ _ D.i2z.symm (sc.extBut _ _ D.TOz.symm (sb.extBut _ _ D.i1z.symm gza'))
    have ne : e ≠ z := fun y => by subst y; rw [gzd] at e1; cases e1; simp at e2
    exact wpAny_setField_rec gzd (by simp) fun he _ se => fin he e (fun c o a1 a2 a3 a4 b => se.extBut _ _ a1 (sd _ _ a4 (sc.extBut _ _ a2 (sb.extBut _ _ a3 (sa.extBut _ _ a1 b))))) ⟨oe, se.extBut _ _ ne e1, e2⟩
theorem end_out {k1 k2 f : Bool} {z p q T i1 i2 l1 l2 : Addr} {oT : Obj} {n1 n2 : Nat} {xs ys : Array Value} {R : Fin → Shared → Prop} (hh : A.handled = none) (D : ZipApart z p q i1 i2 l1 l2) (gz : ZV s.heap z p q (rawInt T) f) (hT : s.heap.get? T = some oT) (gp : IsPair s.heap p (.ref i1) (.ref i2))
    (g1 : Itr k1 s.heap i1 l1 n1) (g2 : Itr k2 s.heap i2 l2 n2) (gl1 : Seqs k1 s.heap l1 xs) (gl2 : Seqs k2 s.heap l2 ys) (none' : xs[n1]? = none ∨ ys[n2]? = none)
    (fin : ∀ h' e, (∀ c o, c ≠ z → c ≠ q → c ≠ i1 → c ≠ i2 → s.heap.get? c = some o → h'.get? c = some o) → (∃ o, h'.get? e = some o ∧ o.cls = .type "StopIteration") → E (.ref e) { s with heap := h' }) :
    wpAny (model prog w) A (Builtin.«zip.__next__» ⟨[.ref z], []⟩) R E s := by
  show wpAny _ _ (field (.ref z) 2 >>= _) _ _ s
  refine wpAny_bind (wpAny_field (x := .bool false) gz rfl rfl ?_); show wpAny _ _ (field (.ref z) 3 >>= _) _ _ s
  refine wpAny_bind (wpAny_field (x := .ref p) gz rfl rfl ?_); refine wpAny_bind (wpAny_seqItems gp rfl ?_)
  show wpAny _ _ (Builtin.SmallTypes.ownedTupleIsFree (.ref z) >>= _) _ _ s
  refine wpAny_bind (wpAny_tupleHeld_zip gz hT fun ha gza sa => ?_); simp only [Bool.false_eq_true, if_false]
  refine wpAny_bind ?_; rw [← Array.forIn_toList]; simp only [List.forIn_cons, List.forIn_nil]
  refine wpAny_bind (wpAny_bind (wpAny_holding ?_)); show wpAny _ _ (Builtin.SmallTypes.nextOf (.ref i1) >>= _) _ _ _
  cases ex : xs[n1]? with
  | none => exact wpAny_bind (one_end (s := { s with heap := ha }) hh (g1.ext sa.extBut D.i1z) (gl1.ext sa.extBut D.l1z) ex fun hb e sb oe => fin hb e (fun c o a1 _ a3 _ b => sb _ _ a3 (sa.extBut _ _ a1 b)) oe)
  | some x =>
    have ey : ys[n2]? = none := none'.elim (fun y => by rw [ex] at y; cases y) id
    refine wpAny_bind (one_item (s := { s with heap := ha }) (g1.ext sa.extBut D.i1z) (gl1.ext sa.extBut D.l1z) ex fun hb g1b sb => wpAny_pure (wpAny_pure ?_))
    refine wpAny_bind (wpAny_bind (wpAny_holding ?_)); show wpAny _ _ (Builtin.SmallTypes.nextOf (.ref i2) >>= _) _ _ _
    exact wpAny_bind (one_end (s := { s with heap := hb }) hh ((g2.ext sa.extBut D.i2z).ext sb.extBut D.i12.symm) ((gl2.ext sa.extBut D.l2z).ext sb.extBut D.l2i1) ey fun hc e sc oe => fin hc e (fun c o a1 _ a3 a4 b => sc _ _ a4 (sb.extBut _ _ a3 (sa.extBut _ _ a1 b))) oe)
theorem step_end {k1 k2 : Bool} {z p q i1 i2 l1 l2 : Addr} {n1 n2 : Nat} {xs ys : Array Value} {u t : Value} {R : Value → Shared → Prop} (hh : A.handled = none) (D : ZipApart z p q i1 i2 l1 l2) (gz : ZSt s.heap z p q) (gp : IsPair s.heap p (.ref i1) (.ref i2)) (gq : IsPair s.heap q u t)
    (g1 : Itr k1 s.heap i1 l1 n1) (g2 : Itr k2 s.heap i2 l2 n2) (gl1 : Seqs k1 s.heap l1 xs) (gl2 : Seqs k2 s.heap l2 ys) (none' : xs[n1]? = none ∨ ys[n2]? = none)
    (fin : ∀ h' e, (∀ c o, c ≠ z → c ≠ q → c ≠ i1 → c ≠ i2 → s.heap.get? c = some o → h'.get? c = some o) → (∃ o, h'.get? e = some o ∧ o.cls = .type "StopIteration") → E (.ref e) { s with heap := h' }) :
    wpAny (model prog w) A (Builtin.SmallTypes.nextOf (.ref z)) R E s := by
  obtain ⟨v, f, gz, hv⟩ := gz
  have T : s.TypeIs (.ref z) "zip" := ⟨_, gz, rfl⟩
  unfold Builtin.SmallTypes.nextOf
  refine wpAny_bind (wpAny_callSpecial?_slot (name := Str.ofString "__next__") T F.slot_zip_next (wpAny_call_entry F.slot_zip_next T F.entry_zip_next ?_ (F.args_zip_next_1 _)))
  rcases hv with rfl | ⟨O, rfl⟩
  · exact end_free hh D gz (fun R' h => home gz h) gp gq g1 g2 gl1 gl2 none' fin
  · cases hO : s.heap.get? O with
    | none => exact end_free hh D gz (fun R' h => gone gz hO h) gp gq g1 g2 gl1 gl2 none' fin
    | some oT => exact end_out hh D gz hO gp g1 g2 gl1 gl2 none' fin
/-- a step of enumerate over something whose own step is told -/
theorem count_step {e z : Addr} {i : Nat} {old : Value} {R : Value → Shared → Prop} (he : IsEnum s.heap e z i old)
    (st : wpAny (model prog w) A (Builtin.SmallTypes.nextOf (.ref z)) (fun x s1 => ∃ h1, s1 = { s with heap := h1 } ∧ IsEnum h1 e z i old ∧ ∀ h', IsEnumOut h' e z ((i : Int) + 1) x h1.objs.size → h'.get? h1.objs.size = some { cls := .type "tuple", data := .seq #[.int i s.toks, x] } → (∀ b o, b ≠ e → h1.get? b = some o → h'.get? b = some o) → R (.ref h1.objs.size) { s with heap := h', toks := s.toks + 1 }) E s) :
    wpAny (model prog w) A (Builtin.«enumerate.__next__» ⟨[.ref e], []⟩) (fun out s' => ∃ v, out = .done (.ret v) ∧ R v s') E s := by
  obtain ⟨hp, g, d, tk, os⟩ := s
  show wpAny _ _ (field (.ref e) 2 >>= _) _ _ _
  refine wpAny_bind (wpAny_field he rfl (x := .ref z) rfl ?_)
  refine wpAny_bind (thn st fun x s1 ⟨h1, es, ge, fin⟩ => ?_)
  subst es
  show wpAny _ _ (field (.ref e) 3 >>= _) _ _ ⟨h1, g, d, tk, os⟩
  refine wpAny_bind (wpAny_field ge rfl (x := rawInt i) rfl ?_); show wpAny _ _ (field (.ref e) 4 >>= _) _ _ ⟨h1, g, d, tk, os⟩
  refine wpAny_bind (wpAny_field ge rfl (x := .none) rfl ?_); show wpAny _ _ (mkInt i >>= _) _ _ ⟨h1, g, d, tk, os⟩
  refine wpAny_bind (wpAny_mkInt ?_); show wpAny _ _ (setField (.ref e) 3 (rawInt ((i : Int) + 1)) >>= _) _ _ ⟨h1, g, d, tk + 1, os⟩
  refine wpAny_bind (wpAny_setField_rec ge (by simp) fun h2 ge2 sb2 => ?_)
  have ge2' : IsEnum h2 e z ((i : Int) + 1) old := ge2
  show wpAny _ _ (setField (.ref e) 4 .none >>= _) _ _ ⟨h2, g, d, tk + 1, os⟩
  refine wpAny_bind (wpAny_setField_rec ge2' (by simp) fun h3 ge3 sb3 => ?_)
  have ge3' : IsEnum h3 e z ((i : Int) + 1) old := ge3
  show wpAny _ _ (newTuple [.int i tk, x] >>= _) _ _ ⟨h3, g, d, tk + 1, os⟩
  refine wpAny_bind (wpAny_newTuple ?_)
  have sz3 : h3.objs.size = h1.objs.size := by
    have a : h3.objs.size = h2.objs.size := sb3.1
    have b : h2.objs.size = h1.objs.size := sb2.1
    rw [a, b]
  have el : e < h3.objs.size := Heap.lt_size ge3'
  have ge4 : IsEnum (h3.push { cls := .type "tuple", data := .seq #[.int i tk, x] }) e z ((i : Int) + 1) old := Heap.get?_push_of_some _ ge3'
  have gt4 : (h3.push { cls := .type "tuple", data := .seq #[.int i tk, x] }).get? h3.objs.size = some { cls := .type "tuple", data := .seq #[.int i tk, x] } := Heap.get?_push_size _ rfl
  have k4 : ∀ b o, b ≠ e → h1.get? b = some o → (h3.push { cls := .type "tuple", data := .seq #[.int i tk, x] }).get? b = some o := fun b o n y => Heap.get?_push_of_some _ (Heap.SameBut.extBut sb3 _ _ n (Heap.SameBut.extBut sb2 _ _ n y))
  show wpAny _ _ (Builtin.SmallTypes.ownedTupleIsFree (.ref e) >>= _) _ _ ⟨_, g, d, tk + 1, os⟩
  rw [sz3] at gt4 el ⊢
  generalize h3.push { cls := .type "tuple", data := .seq #[.int i tk, x] } = h4 at ge4 gt4 k4 ⊢
  refine wpAny_bind ?_; unfold Builtin.SmallTypes.ownedTupleIsFree
  refine wpAny_bind (wpAny_field ge4 rfl (x := .none) rfl (wpAny_pure ?_)); simp only [if_true]
  refine wpAny_bind (wpAny_rule ?_); refine wpAny_bind (wpAny_field ge4 rfl (x := old) rfl ?_)
  refine wpAny_bind (wpAny_setField_rec ge4 (by simp) fun h5 ge5 sb5 => ?_)
  have ge5' : IsEnum h5 e z ((i : Int) + 1) x := ge5
  show wpAny _ _ (Builtin.SmallTypes.ownedTupleHandOut (.ref e) (.ref h1.objs.size) >>= _) _ _ ⟨h5, g, d, tk + 1, os⟩
  refine wpAny_bind ?_; unfold Builtin.SmallTypes.ownedTupleHandOut
  refine wpAny_bind (wpAny_setField_rec ge5' (by simp) fun h6 ge6 sb6 => ?_)
  have ge6' : IsEnumOut h6 e z ((i : Int) + 1) x h1.objs.size := ge6
  refine wpAny_setField_rec ge6' (by simp) fun h7 ge7 sb7 => ?_
  have up : ∀ b o, b ≠ e → h4.get? b = some o → h7.get? b = some o := fun b o n y => Heap.SameBut.extBut sb7 _ _ n (Heap.SameBut.extBut sb6 _ _ n (Heap.SameBut.extBut sb5 _ _ n y))
  exact wpAny_bind (wpAny_letGo (wpAny_pure ⟨_, rfl, fin h7 ge7 (up _ _ (Nat.ne_of_gt el) gt4) fun b o n y => up b o n (k4 b o n y)⟩))
end
end EZ
namespace EZ
open PySem PySem.F L2 AL ZM
open PyProof.Rows hiding St
def itn : Bool → String
  | true => "list_iterator"
  | false => "tuple_iterator"
abbrev mh1 (k1 : Bool) (h : Heap) (a : Addr) : Heap := h.push { cls := .type (itn k1), data := .fields #[.ref a, .int 0 0] }
abbrev mh2 (k1 k2 : Bool) (h : Heap) (a b : Addr) : Heap := (mh1 k1 h a).push { cls := .type (itn k2), data := .fields #[.ref b, .int 0 0] }
abbrev mh3 (k1 k2 : Bool) (h : Heap) (a b : Addr) : Heap := (mh2 k1 k2 h a b).push { cls := .type "tuple", data := .seq #[.ref h.objs.size, .ref (mh1 k1 h a).objs.size] }
abbrev mh4 (k1 k2 : Bool) (h : Heap) (a b : Addr) : Heap := (mh3 k1 k2 h a b).push { cls := .type "tuple", data := .seq #[.none, .none] }
abbrev mh5 (k1 k2 : Bool) (h : Heap) (a b : Addr) : Heap := (mh4 k1 k2 h a b).push { cls := .type "zip", data := .fields #[.none, .bool false, .bool false, .ref (mh2 k1 k2 h a b).objs.size, .ref (mh3 k1 k2 h a b).objs.size] }
set_option maxHeartbeats 0 in
theorem meets_zip (k1 k2 : Bool) (a b : Addr) (xs ys : Array Value) : Meets (Builtin.«zip.__new__» ⟨[.type "zip", .ref a, .ref b], []⟩) (fun _ R s => Seqs k1 s.heap a xs ∧ Seqs k2 s.heap b ys ∧ R (.ok (.ret (.ref (mh4 k1 k2 s.heap a b).objs.size))) { s with heap := mh5 k1 k2 s.heap a b }) :=
  .of_wp fun prog w A R s h => by
    obtain ⟨hp, g, d, tk, os⟩ := s; obtain ⟨ga, gb, h⟩ := h; have sz := sub_zip
    cases k1 <;> cases k2
    · have La : Heap.IsTuple (Shared.heap ⟨hp, g, d, tk, os⟩) a xs := ga
      have Lb : Heap.IsTuple (Shared.heap ⟨hp.push { cls := .type "tuple_iterator", data := .fields #[.ref a, .int 0 0] }, g, d, tk, os⟩) b ys := Heap.IsTuple.push gb _
      wp_walk using wpAny_pyIter_tuple La, wpAny_pyIter_tuple Lb
      exact ⟨_, rfl, h⟩
    · have La : Heap.IsTuple (Shared.heap ⟨hp, g, d, tk, os⟩) a xs := ga
      have Lb : Heap.IsList (Shared.heap ⟨hp.push { cls := .type "tuple_iterator", data := .fields #[.ref a, .int 0 0] }, g, d, tk, os⟩) b ys := Heap.IsList.push gb _
      wp_walk using wpAny_pyIter_tuple La, wpAny_pyIter_list Lb
      exact ⟨_, rfl, h⟩
    · have La : Heap.IsList (Shared.heap ⟨hp, g, d, tk, os⟩) a xs := ga
      have Lb : Heap.IsTuple (Shared.heap ⟨hp.push { cls := .type "list_iterator", data := .fields #[.ref a, .int 0 0] }, g, d, tk, os⟩) b ys := Heap.IsTuple.push gb _
      wp_walk using wpAny_pyIter_list La, wpAny_pyIter_tuple Lb
      exact ⟨_, rfl, h⟩
    · have La : Heap.IsList (Shared.heap ⟨hp, g, d, tk, os⟩) a xs := ga
      have Lb : Heap.IsList (Shared.heap ⟨hp.push { cls := .type "list_iterator", data := .fields #[.ref a, .int 0 0] }, g, d, tk, os⟩) b ys := Heap.IsList.push gb _
      wp_walk using wpAny_pyIter_list La, wpAny_pyIter_list Lb
      exact ⟨_, rfl, h⟩
theorem itr_new {k : Bool} {h : Heap} {a l : Addr} (e : h.get? a = some { cls := .type (itn k), data := .fields #[.ref l, .int 0 0] }) : Itr k h a l 0 := by
  cases k <;> exact ⟨_, e, rfl, rfl⟩
theorem call_zip {k1 k2 : Bool} {prog : Program} {w : World} {A : Around} {E : Value → Shared → Prop} {s : Shared} {a b : Addr} {xs ys : Array Value} {R : Value → Shared → Prop} (ga : Seqs k1 s.heap a xs) (gb : Seqs k2 s.heap b ys)
    (fin : ∀ h', IsZip h' (s.heap.objs.size + 4) (s.heap.objs.size + 2) (s.heap.objs.size + 3) .none → IsPair h' (s.heap.objs.size + 2) (.ref s.heap.objs.size) (.ref (s.heap.objs.size + 1)) → IsPair h' (s.heap.objs.size + 3) .none .none → Itr k1 h' s.heap.objs.size a 0 → Itr k2 h' (s.heap.objs.size + 1) b 0 → h'.objs.size = s.heap.objs.size + 5 →
      (∀ c o, s.heap.get? c = some o → h'.get? c = some o) → R (.ref (s.heap.objs.size + 4)) { s with heap := h' }) : wpAny (model prog w) A (call (.type "zip") [.ref a, .ref b]) R E s := by
  refine callType_new F.called_zip (by decide) (F.typeCall_zip_2 _ _) (F.newCall_zip_2 _ _) (fun z => F.args_object_init_3 z _ _) F.entry_zip_new (meets_zip k1 k2 a b xs ys) ⟨ga, gb, ?_⟩
  have n1 : (mh1 k1 s.heap a).objs.size = s.heap.objs.size + 1 := Heap.size_push ..
  have n2 : (mh2 k1 k2 s.heap a b).objs.size = s.heap.objs.size + 2 := by rw [Heap.size_push, n1]
  have n3 : (mh3 k1 k2 s.heap a b).objs.size = s.heap.objs.size + 3 := by rw [Heap.size_push, n2]
  have n4 : (mh4 k1 k2 s.heap a b).objs.size = s.heap.objs.size + 4 := by rw [Heap.size_push, n3]
  have n5 : (mh5 k1 k2 s.heap a b).objs.size = s.heap.objs.size + 5 := by rw [Heap.size_push, n4]
  have at5 : (mh5 k1 k2 s.heap a b).get? (mh4 k1 k2 s.heap a b).objs.size = some _ := Heap.get?_push_size _ rfl
  have at4 : (mh5 k1 k2 s.heap a b).get? (mh3 k1 k2 s.heap a b).objs.size = some _ := Heap.get?_push_of_some _ (Heap.get?_push_size _ rfl)
  have at3 : (mh5 k1 k2 s.heap a b).get? (mh2 k1 k2 s.heap a b).objs.size = some _ := Heap.get?_push_of_some _ (Heap.get?_push_of_some _ (Heap.get?_push_size _ rfl))
  have at2 : (mh5 k1 k2 s.heap a b).get? (mh1 k1 s.heap a).objs.size = some _ := Heap.get?_push_of_some _ (Heap.get?_push_of_some _ (Heap.get?_push_of_some _ (Heap.get?_push_size _ rfl)))
  have at1 : (mh5 k1 k2 s.heap a b).get? s.heap.objs.size = some _ := Heap.get?_push_of_some _ (Heap.get?_push_of_some _ (Heap.get?_push_of_some _ (Heap.get?_push_of_some _ (Heap.get?_push_size _ rfl))))
  show _ ∧ _
  rw [n2, n3, n4] at at5
  rw [n1, n2] at at3
  rw [n3] at at4
  rw [n1] at at2
  rw [n4]
  exact ⟨⟨_, at5, rfl⟩, fin _ at5 at3 at4 (itr_new at1) (itr_new at2) n5 fun c o y => Heap.get?_push_of_some _ (Heap.get?_push_of_some _ (Heap.get?_push_of_some _ (Heap.get?_push_of_some _ (Heap.get?_push_of_some _ y))))⟩
set_option maxHeartbeats 0 in
theorem meets_count (z p q : Addr) : Meets (Builtin.«enumerate.__new__» ⟨[.type "enumerate", .ref z], []⟩) (fun _ R s => IsZip s.heap z p q .none ∧ R (.ok (.ret (.ref s.heap.objs.size))) { s with heap := s.heap.push { cls := .type "enumerate", data := .fields #[.none, .bool false, .ref z, rawInt 0, .none, .none] } }) :=
  .of_wp fun prog w A R s h => by
    obtain ⟨hp, g, d, tk, os⟩ := s; obtain ⟨gz, h⟩ := h
    have hsub := sub_enumerate
    have gz' : IsZip (Shared.heap ⟨hp, g, d, tk, os⟩) z p q .none := gz
    wp_walk using AutoSeq1.wpAny_loadPart' gz
    refine wpAny_stack_any fun st => wpAny_pure ?_
    split
    · rename_i c _ _ _ _ _
      cases (c == Value.type "enumerate")
      · wp_walk using AutoSeq1.wpAny_loadPart' gz, wpAny_pyIter_zip gz'
        exact ⟨_, rfl, h⟩
      · wp_walk using AutoSeq1.wpAny_loadPart' gz, wpAny_pyIter_zip gz'
        exact ⟨_, rfl, h⟩
    · wp_walk using AutoSeq1.wpAny_loadPart' gz, wpAny_pyIter_zip gz'
      exact ⟨_, rfl, h⟩
theorem call_count {prog : Program} {w : World} {A : Around} {E : Value → Shared → Prop} {s : Shared} {z p q : Addr} {R : Value → Shared → Prop} (gz : IsZip s.heap z p q .none)
    (fin : ∀ h', IsEnum h' s.heap.objs.size z 0 .none → (∀ c o, s.heap.get? c = some o → h'.get? c = some o) → R (.ref s.heap.objs.size) { s with heap := h' }) : wpAny (model prog w) A (call (.type "enumerate") [.ref z]) R E s := by
  refine callType_new F.called_enumerate (by decide) (F.typeCall_enumerate_1 _) (F.newCall_enumerate_1 _) (fun obj => F.args_object_init_2 obj _) F.entry_enumerate_new (meets_count z p q) ⟨gz, ?_⟩
  have at1 : (s.heap.push { cls := .type "enumerate", data := .fields #[.none, .bool false, .ref z, rawInt 0, .none, .none] }).get? s.heap.objs.size = some _ := Heap.get?_push_size _ rfl
  exact ⟨⟨_, at1, rfl⟩, fin _ at1 fun c o y => Heap.get?_push_of_some _ y⟩
/-! the iterator -/
def ItZ (K : PySem.W.Frag) (k1 k2 : Bool) (a b : Addr) : It :=
  ⟨fun i H => ∃ (xs ys : List V) (x y : V), Side K k1 H a xs ∧ Side K k2 H b ys ∧ xs[i]? = some x ∧ ys[i]? = some y,
    fun i H v H' => ∃ P T x y, v = .ref T ∧ H P = none ∧ upd H P (.tup [x, y]) T = none ∧ H' = upd (upd H P (.tup [x, y])) T (.tup [.int (i : Nat), .ref P]) ∧ (∀ xs, Side K k1 H a xs → xs[i]? = some x) ∧ ∀ ys, Side K k2 H b ys → ys[i]? = some y,
    fun i H => ∃ xs ys : List V, Side K k1 H a xs ∧ Side K k2 H b ys ∧ (xs.length ≤ i ∨ ys.length ≤ i)⟩
section
variable {X : Cx} {pins : List (Addr × Obj)} {σ : St} {H : Hp} {s : Shared}
theorem side_at {k : Bool} {a : Addr} {xs : List V} (I : Inv X pins σ H s) (h : Side X.K k H a xs) : ∃ us : List Value, Vals xs us ∧ Seqs k s.heap a us.toArray ∧ a < s.heap.objs.size := by
  cases k
  · obtain ⟨us, r, p, _⟩ := I.tuple h
    obtain ⟨ob, hob, _⟩ := id p
    exact ⟨us, r, p, Heap.lt_size hob⟩
  · obtain ⟨us, r, p, _⟩ := I.list h
    exact ⟨us, r, p.isList, p.lt⟩
theorem side_inj {k : Bool} {a : Addr} {xs ys : List V} (I : Inv X pins σ H s) (h : Side X.K k H a xs) (g : Side X.K k H a ys) : xs = ys := by
  cases k
  · exact I.tuple_inj h g
  · exact I.list_inj h g
end
theorem among6 {e z p q i1 i2 c : Addr} (h : c ∈ [e, z, p, q, i1, i2]) : c = e ∨ c = z ∨ c = p ∨ c = q ∨ c = i1 ∨ c = i2 := by simpa using h
theorem turn {P : Program} {w : World} {K : PySem.W.Frag} {elts : List Expr} {kk : Nat} {tpos : Pos} {k1 k2 : Bool} {a b e z p q i1 i2 : Addr} (D : ZipApart z p q i1 i2 a b) (ne : z ≠ e ∧ p ≠ e ∧ q ≠ e ∧ i1 ≠ e ∧ i2 ≠ e) :
    Turn P w K (.Tuple elts kk tpos) (ItZ K k1 k2 a b) [e, z, p, q, i1, i2] e (fun i h => (∃ old, IsEnum h e z ((i : Nat) : Int) old) ∧ ZSt h z p q ∧ IsPair h p (.ref i1) (.ref i2) ∧ (∃ x y, IsPair h q x y) ∧ Itr k1 h i1 a i ∧ Itr k2 h i2 b i) where
  mem := by simp
  obj := fun i h ⟨⟨old, ge⟩, ⟨v, f, gz, _⟩, gp, ⟨x, y, gq⟩, g1, g2⟩ c hc => by
    rcases among6 hc with e | e | e | e | e | e
    · rw [e]; exact ⟨_, ge, fun v n => nomatch n⟩
    · rw [e]; exact ⟨_, gz, fun v n => nomatch n⟩
    · rw [e]; exact ⟨_, gp, fun v n => nomatch n⟩
    · rw [e]; exact ⟨_, gq, fun v n => nomatch n⟩
    · obtain ⟨o, e1, vs, d⟩ := g1.obj
      exact ⟨o, e ▸ e1, fun v n => by rw [d] at n; cases n⟩
    · obtain ⟨o, e1, vs, d⟩ := g2.obj
      exact ⟨o, e ▸ e1, fun v n => by rw [d] at n; cases n⟩
  keep := fun i h h' ⟨⟨old, ge⟩, ⟨v, f, gz, hv⟩, gp, ⟨x, y, gq⟩, g1, g2⟩ k => ⟨⟨old, k e (by simp) _ ge⟩, ⟨v, f, k z (by simp) _ gz, hv⟩, k p (by simp) _ gp, ⟨x, y, k q (by simp) _ gq⟩, g1.to fun o n => k i1 (by simp) o n, g2.to fun o n => k i2 (by simp) o n⟩
  item := by
    intro X eP ew eK hc i pins s σ H E I hf ⟨⟨old, ge⟩, gz, gp, ⟨x0, y0, gq⟩, g1, g2⟩ ⟨xs, ys, x, y, sx, sy, ex, ey⟩
    subst eP ew eK
    obtain ⟨us, r1, p1, _⟩ := side_at I sx
    obtain ⟨ws, r2, p2, _⟩ := side_at I sy
    obtain ⟨u, hu, ru⟩ := r1.get ex
    obtain ⟨u2, hu2, ru2⟩ := r2.get ey
    have T : s.TypeIs (.ref e) "enumerate" := ⟨_, ge, rfl⟩
    unfold pyNext
    refine wpAny_bind (wpAny_attempt (wpAny_callSpecial?_slot (name := Str.ofString "__next__") T F.slot_enumerate_next (wpAny_call_entry F.slot_enumerate_next T F.entry_enumerate_next (count_step ge ?_) (F.args_enumerate_next_1 _))))
    refine step_item D gz gp gq g1 g2 p1 p2 (x := u) (y := u2) (by simpa using hu) (by simpa using hu2) fun h1 gz1 gq1 g11 g21 gT1 sz1 hk1 => ?_
    refine ⟨h1, rfl, hk1 _ _ ne.1.symm ne.2.2.1.symm ne.2.2.2.1.symm ne.2.2.2.2.symm ge, fun h2 ge2 gT2 hk2 => wpAny_pure ?_⟩
    refine ⟨_, rfl, wpAny_letOwnedTupleGo_enum (s := { s with heap := h2, toks := s.toks + 1 }) ge2 fun h3 ge3 sb => ?_⟩
    have new1 : ObjOk X.prog X.w (upd H s.heap.objs.size (.tup [x, y])) h1 s.heap.objs.size (.tup [x, y]) := ⟨by show 2 ≤ sizeLine; decide, [u, u2], .cons ru (.cons ru2 .nil), ⟨_, gT1, rfl, _, rfl⟩⟩
    have I1 : Inv X pins σ (upd H s.heap.objs.size (.tup [x, y])) { s with heap := h1 } :=
      I.turnedNew (ch := [e, z, p, q, i1, i2]) (t' := s.toks) (fun c o hb n => hk1 c o (fun m => hb (by simp [m])) (fun m => hb (by simp [m])) (fun m => hb (by simp [m])) (fun m => hb (by simp [m])) n) hf (Nat.le_refl _) new1
    have lt : ∀ c ∈ [e, z, p, q, i1, i2], c < s.heap.objs.size := fun c hcm => by
      rcases among6 hcm with y | y | y | y | y | y
      · exact y ▸ Heap.lt_size ge
      · obtain ⟨v, f, g, _⟩ := gz; exact y ▸ Heap.lt_size g
      · exact y ▸ Heap.lt_size gp
      · exact y ▸ Heap.lt_size gq
      · obtain ⟨o, e1, _⟩ := g1.obj
        exact y ▸ Heap.lt_size e1
      · obtain ⟨o, e1, _⟩ := g2.obj
        exact y ▸ Heap.lt_size e1
    have hf1 : ∀ c ∈ [e, z, p, q, i1, i2], FpOk X pins (upd H s.heap.objs.size (.tup [x, y])) c := fun c hcm => ⟨by rw [upd_ne (Nat.ne_of_lt (lt c hcm))]; exact (hf c hcm).1, (hf c hcm).2⟩
    have el1 : e < h1.objs.size := by rw [sz1]; exact Nat.lt_succ_of_lt (lt e (by simp))
    have gT3 : h3.get? h1.objs.size = some { cls := .type "tuple", data := .seq #[.int i s.toks, .ref s.heap.objs.size] } := (sb.2 _ (Nat.ne_of_gt el1)).trans gT2
    have new2 : ObjOk X.prog X.w (upd (upd H s.heap.objs.size (.tup [x, y])) h1.objs.size (.tup [.int (i : Nat), .ref s.heap.objs.size])) h3 h1.objs.size (.tup [.int (i : Nat), .ref s.heap.objs.size]) :=
      ⟨by show 2 ≤ sizeLine; decide, [.int i s.toks, .ref s.heap.objs.size], .cons ⟨_, rfl⟩ (.cons rfl .nil), ⟨_, gT3, rfl, _, rfl⟩⟩
    have k3 : ∀ c o, c ≠ e → h1.get? c = some o → h3.get? c = some o := fun c o n y => (sb.2 c n).trans (hk2 c o n y)
    have I2 : Inv X pins σ (upd (upd H s.heap.objs.size (.tup [x, y])) h1.objs.size (.tup [.int (i : Nat), .ref s.heap.objs.size])) { s with heap := h3, toks := s.toks + 1 } :=
      I1.turnedNew (ch := [e]) (t' := s.toks + 1) (fun c o hb n => k3 c o (fun m => hb (by simp [m])) n) (fun c hcm => hf1 c (by rw [List.mem_singleton] at hcm; rw [hcm]; exact List.mem_cons_self)) (Nat.le_refl _) new2
    obtain ⟨v, f, gz1', hv1⟩ := gz1
    obtain ⟨u', t', gq1'⟩ := gq1
    refine ⟨.ref h1.objs.size, _, I2, rfl, ⟨s.heap.objs.size, h1.objs.size, x, y, rfl, I.hok.fresh (Nat.le_refl _), I1.hok.fresh (Nat.le_refl _), rfl, fun l hl => by rw [side_inj I hl sx]; exact ex, fun l hl => by rw [side_inj I hl sy]; exact ey⟩,
      ⟨⟨.ref s.heap.objs.size, ?_⟩, ⟨v, f, k3 _ _ ne.1 gz1', hv1⟩, k3 _ _ ne.2.1 (hk1 _ _ D.TIz D.TITO D.TIi1 D.TIi2 gp), ⟨u', t', k3 _ _ ne.2.2.1 gq1'⟩, g11.to fun o n => k3 _ _ ne.2.2.2.1 n, g21.to fun o n => k3 _ _ ne.2.2.2.2 n⟩, fun c hcm => ?_⟩
    · have e1 : ((i + 1 : Nat) : Int) = (i : Int) + 1 := by omega
      rw [e1]; exact ge3
    · rw [upd_ne (Nat.ne_of_lt (by rw [sz1]; exact Nat.lt_succ_of_lt (lt c hcm)))]
      exact (hf1 c hcm).1
  done := by
    intro X eP ew eK hc i pins s σ H E I hf ⟨⟨old, ge⟩, gz, gp, ⟨x0, y0, gq⟩, g1, g2⟩ ⟨xs, ys, sx, sy, en⟩
    subst eP ew eK
    obtain ⟨us, r1, p1, _⟩ := side_at I sx
    obtain ⟨ws, r2, p2, _⟩ := side_at I sy
    have e1 := r1.length
    have e2 := r2.length
    have hn : us.toArray[i]? = none ∨ ws.toArray[i]? = none := en.elim (fun n => .inl (by simp; omega)) fun n => .inr (by simp; omega)
    have T : s.TypeIs (.ref e) "enumerate" := ⟨_, ge, rfl⟩
    unfold pyNext
    refine wpAny_bind (wpAny_attempt (wpAny_callSpecial?_slot (name := Str.ofString "__next__") T F.slot_enumerate_next (wpAny_call_entry F.slot_enumerate_next T F.entry_enumerate_next ?_ (F.args_enumerate_next_1 _))))
    show wpAny _ _ (field (.ref e) 2 >>= _) _ _ _
    refine wpAny_bind (wpAny_field ge rfl (x := .ref z) rfl ?_)
    refine wpAny_bind (step_end (I.ok.hd hc) D gz gp gq g1 g2 p1 p2 hn fun h' x hk ⟨o, o1, o2⟩ => ?_)
    refine wpAny_bind (wpAny_isInstance (T := "StopIteration") (b := true) ⟨o, o1, o2⟩ isSubtype_stop ?_)
    exact wpAny_pure ⟨rfl, I.turnedL (ch := [e, z, p, q, i1, i2]) (t' := s.toks) (fun c o hb n => hk c o (fun m => hb (by simp [m])) (fun m => hb (by simp [m])) (fun m => hb (by simp [m])) (fun m => hb (by simp [m])) n) hf⟩
  self := fun A i s Q E st h => let ⟨⟨_, ge⟩, _⟩ := st; wpAny_pyIter_enum ge h
def iEZ (K : PySem.W.Frag) (ta : TA) : TI := fun σ H R => ta σ H fun vs H1 => ∃ a b k1 k2 xs ys, vs = [.ref a, .ref b] ∧ Side K k1 H1 a xs ∧ Side K k2 H1 b ys ∧ R (ItZ K k1 k2 a b) H1
theorem pi_ez {X : Cx} {e f : Expr} {ta : TA} {p pos p2 pos2 tpos : Pos} {elts : List Expr} {kk : Nat} (hg2 : Gl X "enumerate") (hm2 : X.mg "enumerate" = none) (hg : Gl X "zip") (hm : X.mg "zip" = none) (ha : PA X [e, f] ta) (h1 : starEach [e, f] X.env = (false, eval e X.env) :: starEach [f] X.env) (h2 : (backTo pos (starEach [f] X.env)).any (·.1) = false) :
    PI X (.Tuple elts kk tpos) (.Call (.Name "enumerate" p2) [.Call (.Name "zip" p) [e, f] [] pos] [] pos2) (iEZ X.K ta) := by
  refine ⟨fun pins s σ H R I h => Call_ (ld_blt I hg2 hm2 boot_enumerate (PyProof.Rows.callWith_type1 ?_ rfl rfl))⟩
  show wpAny _ _ (spliced ((false, eval (.Call (.Name "zip" p) [e, f] [] pos) X.env) :: backTo pos2 (starEach [] X.env))) _ _ s
  refine Calls.spliced_cons (Call_ (ld_blt I hg hm PyProof.Rows.boot_zip (PyProof.Rows.callWith_type1 (thn (ha.run pos pins s σ H _ I h) fun us s1 ⟨vs, H1, I1, r1, a, b, k1, k2, xs, ys, ex, sx, sy, k⟩ => ?_) h1 h2)))
  subst ex
  cases r1 with
  | cons r rr =>
    cases rr with
    | cons r' rr =>
      cases rr; cases r; cases r'
      obtain ⟨us, w1, p1, l1⟩ := side_at I1 sx
      obtain ⟨ws, w2, p2, l2⟩ := side_at I1 sy
      refine call_zip p1 p2 fun h' gz gp gq g1 g2 hsz hk => Calls.spliced_nil ?_
      refine call_count (s := { s1 with heap := h' }) gz fun h2 ge hk2 => wpAny_pyIter_enum ge ?_
      have ez : h'.objs.size = s1.heap.objs.size + 5 := hsz
      have fr6 : ∀ c, c ∈ [h'.objs.size, s1.heap.objs.size + 4, s1.heap.objs.size + 2, s1.heap.objs.size + 3, s1.heap.objs.size, s1.heap.objs.size + 1] → FpOk X pins H1 c := fun c hc => by
        have le : s1.heap.objs.size ≤ c := by
          rcases among6 hc with e | e | e | e | e | e
          · rw [e, ez]; exact Nat.le_add_right _ _
          all_goals (rw [e]; first | exact Nat.le_add_right _ _ | exact Nat.le_refl _)
        exact I1.fpOk le (I1.hok.fresh le)
      refine ⟨h'.objs.size, [h'.objs.size, s1.heap.objs.size + 4, s1.heap.objs.size + 2, s1.heap.objs.size + 3, s1.heap.objs.size, s1.heap.objs.size + 1], _, _, H1, rfl, I1.kept (t' := s1.toks) fun c o n => hk2 c o (hk c o n), turn (PySem.W.ktu_apart s1.heap.objs.size a b l1 l2) ?_, ⟨⟨.none, ge⟩, ⟨_, _, hk2 _ _ gz, .inl rfl⟩, hk2 _ _ gp, ⟨_, _, hk2 _ _ gq⟩, g1.to fun o n => hk2 _ _ n, g2.to fun o n => hk2 _ _ n⟩, fr6, k⟩
      rw [ez]
      refine ⟨?_, ?_, ?_, ?_, ?_⟩ <;> exact Nat.ne_of_lt (by first | exact Nat.lt_add_of_pos_right (by decide) | exact Nat.add_lt_add_left (by decide) _)
end EZ
namespace EV
open PySem PySem.Spec L2 AL
open PyProof.Rows hiding St
/-! for i, (j, l) in enumerate(zip(..)) -/
def sqA (k : Bool) (As : List AV) : AV := match k with
  | true => lst As
  | false => tup As
theorem seqC_sq {Z : Cls} {mo : Mem} {qs : List Addr} {x : CV} {l : List PV} {A : AV} (h : seqC x = some l) (r : RepC Z mo qs x A) : ∃ k, A = sqA k (absPs Z l) := by
  unfold seqC at h
  split at h
  · cases h; exact ⟨true, isL r⟩
  · cases h; exact ⟨false, isT r⟩
  · cases h
theorem sqA_at {K : PySem.W.Frag} {M : List Addr} {H : Hp} {k : Bool} {As : List AV} {v : V} (h : (sqA k As).p K M H v) : ∃ a xs, v = .ref a ∧ ZM.Side K k H a xs ∧ AllV K M H As xs := by
  cases k
  · obtain ⟨a, xs, e, t, r⟩ := h
    exact ⟨a, xs, e, t.sq, r⟩
  · obtain ⟨a, xs, e, t, r⟩ := h
    exact ⟨a, xs, e, t.sq, r⟩
section
variable {G : Gx} {N : List Str} {sc : Scope} {df : Bool} {pos p pos2 p2 tpos : Pos} {e f elt : Expr} {c a b : CE} {scope : Scope}
theorem okZ_iter (B : Blt G.mg) (hm2 : G.mg ("enumerate" : Str) = none) (hg2 : sc.names.lookup ("enumerate" : Str) = some .globalImplicit) (hg : sc.names.lookup ("zip" : Str) = some .globalImplicit) (hs : notStar e = true) (ht : notStar f = true) (ha : OkE G N sc df a e) (hb : OkE G N sc df b f) {elts : List Expr} {kk} {X : Cx} (at_ : G.At N sc df X) {ρc : Ev} {ow : Own} {x y : CV} {xs ys : List PV} (hx : evE G.T a ρc ow = some x) (hy : evE G.T b ρc ow = some y) (hxs : seqC x = some xs) (hys : seqC y = some ys) {mo : Mem} {qs : List Addr} {ρ : Rho} (hl : qs.length = ow.length) (hr : RepE G.Z mo qs ρc ρ) {fr : Frm} {σ : St} {H : Hp} (o : Holds X.K fr ρ (mo ++ memW G.Z qs ow) σ H) {R : It → Hp → Prop}
    (q : ∀ J H', Ext (Ms fr (mo ++ memW G.Z qs ow)) H (Ms fr (mo ++ memW G.Z qs ow)) H' → Holds X.K fr ρ (mo ++ memW G.Z qs ow) σ H' → IterX X.K J (Ms fr (mo ++ memW G.Z qs ow)) H' (mo ++ memW G.Z qs ow) (absPs G.Z (enumP 0 (pairP xs ys))) → R J H') :
    wpI X (.Tuple elts kk tpos) (.Call (.Name "enumerate" p2) [.Call (.Name "zip" p) [e, f] [] pos] [] pos2) σ H R := by
  have s2 := star1 ht [] X.env
  have s1 : starEach [e, f] X.env = (false, eval e X.env) :: starEach [f] X.env := star1 hs _ _
  refine le_I (EZ.pi_ez (gl_of at_ hg2) (by rw [at_.mt]; exact hm2) (gl_of at_ hg) (by rw [at_.mt]; exact B.zip) (pa_cons wpE_pe (pa_cons wpE_pe pa_nil s2) s1) s1 (star_none (by simp [ht]) _ _)) ?_
  refine (ha X at_ _ _ _ hx _ _ _ hl hr).to (Kt := fun A m' => RepC G.Z mo qs x A ∧ m' = mo ++ memW G.Z qs ow) (fun A hA => ⟨hA, rfl⟩) fr σ H o _ fun A m1 v H1 ⟨hA, em⟩ x1 o1 r1 => ?_
  subst em
  refine (hb X at_ _ _ _ hy _ _ _ hl hr).to (Kt := fun A m' => RepC G.Z mo qs y A ∧ m' = mo ++ memW G.Z qs ow) (fun A hA => ⟨hA, rfl⟩) fr σ H1 o1 _ fun C m2 u H2 ⟨hC, em⟩ x2 o2 r2 => ?_
  subst em
  obtain ⟨k1, rfl⟩ := seqC_sq hxs hA
  obtain ⟨k2, rfl⟩ := seqC_sq hys hC
  have r1' := (sqA k1 (absPs G.Z xs)).st r1 x2
  obtain ⟨a1, us, rfl, t1, w1⟩ := sqA_at r1'
  obtain ⟨a2, ws, rfl, t2, w2⟩ := sqA_at r2
  refine ⟨a1, a2, k1, k2, us, ws, rfl, t1, t2, q _ H2 (x1.trans x2) o2 fun fr2 H3 x3 mv => ?_⟩
  obtain ⟨_, us3, e1, t13, w13⟩ := sqA_at ((sqA k1 (absPs G.Z xs)).st r1' x3)
  cases e1
  obtain ⟨_, ws3, e2, t23, w23⟩ := sqA_at ((sqA k2 (absPs G.Z ys)).st r2 x3)
  cases e2
  have l1 := w13.length
  have l2 := w23.length
  have hE : absPs G.Z (enumP 0 (pairP xs ys)) = enumA (pairA (absPs G.Z xs) (absPs G.Z ys)) := by rw [absPs_enum, absPs_pair]
  have hn : (absPs G.Z (enumP 0 (pairP xs ys))).length = min us3.length ws3.length := by
    rw [hE]
    unfold enumA
    rw [pairA_len, List.length_map, List.length_range, pairA_len, l1, l2]
    omega
  refine ⟨fun i hi => ⟨?_, fun z H4 hz => ?_⟩, ?_⟩
  · rw [hn] at hi
    exact ⟨us3, ws3, us3[i]'(by omega), ws3[i]'(by omega), t13, t23, by simp, by simp⟩
  · obtain ⟨P, T, x', y', rfl, hP, hT, rfl, g1, g2⟩ := hz
    refine ⟨.inr ⟨P, _, T, _, hP, hT, rfl⟩, fun D hD => ?_⟩
    have p1 := pair_yld w13 w23 (.refl _ _) hP (fun b hb => mv.has hb) (g1 _ t13) (g2 _ t23)
    rw [hE] at hD
    unfold enumA at hD
    rw [hn] at hi
    have hi2 : i < (pairA (absPs G.Z xs) (absPs G.Z ys)).length := by rw [pairA_len, l1, l2]; exact hi
    have hg3 : (pairA (absPs G.Z xs) (absPs G.Z ys))[i]? = some ((pairA (absPs G.Z xs) (absPs G.Z ys))[i]) := by simp [hi2]
    have eD : D = tup [AL.int (i : Int), (pairA (absPs G.Z xs) (absPs G.Z ys))[i]] := by
      have : (pairA ((List.range (pairA (absPs G.Z xs) (absPs G.Z ys)).length).map fun (i : Nat) => AL.int (i : Int)) (pairA (absPs G.Z xs) (absPs G.Z ys)))[i]? = some (tup [AL.int (i : Int), (pairA (absPs G.Z xs) (absPs G.Z ys))[i]]) := by
        conv => lhs; unfold pairA
        rw [List.getElem?_zipWith]
        have e3 : ((List.range (pairA (absPs G.Z xs) (absPs G.Z ys)).length).map fun (i : Nat) => AL.int (i : Int))[i]? = some (AL.int (i : Int)) := by simp [hi2]
        have hg4 := hg3
        unfold pairA at e3 hg4
        rw [e3, hg4]
        rfl
      rw [this] at hD
      exact (Option.some.inj hD).symm
    subst eD
    have nT : T ∉ Ms fr2 (mo ++ memW G.Z qs ow) := fun m => by
      obtain ⟨o', q'⟩ := mv.has m
      by_cases eTP : T = P
      · subst eTP; rw [hP] at q'; cases q'
      · rw [upd_ne eTP] at hT; rw [hT] at q'; cases q'
    exact ⟨T, [.int (i : Nat), .ref P], rfl, .inl ⟨.inl upd_same, nT⟩, .cons rfl (.cons ((AV.st _ (p1 _ hg3) (.alloc hT))) .nil)⟩
  · rw [hn]
    exact ⟨us3, ws3, t13, t23, by omega⟩
def tgtZ (Z : Cls) (i j l : Nat) (v : PV) (r : Rho) : Rho := match v with
  | .tup [k, .tup [x, y]] => ((r.set i (some (absP Z k))).set j (some (absP Z x))).set l (some (absP Z y))
  | _ => r
theorem lcZ_form {i j l : Nat} {ρ : Ev} {fe : Ev → Option CV} {v : PV} {o : Option PV} (h : lcZ i j l ρ fe v = some o) : ∃ k x y u, v = .tup [k, .tup [x, y]] ∧ fe ((((wipeE ρ [i, j, l]).set i (some (.p k))).set j (some (.p x))).set l (some (.p y))) = some (.p u) ∧ o = some u := by
  unfold lcZ at h
  split at h
  · split at h
    · rename_i u hu
      cases h
      exact ⟨_, _, _, u, rfl, hu, rfl⟩
    · cases h
  · cases h
theorem okE_lcz (B : Blt G.mg) (hm2 : G.mg ("enumerate" : Str) = none) (hg2 : sc.names.lookup ("enumerate" : Str) = some .globalImplicit) (hg : sc.names.lookup ("zip" : Str) = some .globalImplicit) (hs : notStar e = true) (ht : notStar f = true) (ha : OkE G N sc df a e) (hb : OkE G N sc df b f)
    {i j l : Nat} {ni nj nl : Str} {pi pj pl tp tp2 : Pos} {kk kk2} (hi : N[i]? = some ni) (hj : N[j]? = some nj) (hl' : N[l]? = some nl)
    (li : (relS scope sc).names.lookup ni = some .local) (lj : (relS scope sc).names.lookup nj = some .local) (ll : (relS scope sc).names.lookup nl = some .local) (hok : blkC N sc scope [(ni, i), (nj, j), (nl, l)] = true) (hE : OkE G N (relS scope sc) false c elt) :
    OkE G N sc df (.lcz i j l a b c) (.ListComp elt [⟨.Tuple [.Name ni pi, .Tuple [.Name nj pj, .Name nl pl] kk2 tp2] kk tp, .Call (.Name "enumerate" p2) [.Call (.Name "zip" p) [e, f] [] pos] [] pos2, [], 0⟩] scope tpos) := fun X at_ ρc ow v h mo qs ρ hl hr Kt q => by
  simp only [evE] at h
  split at h
  · cases h
  · rename_i x hx
    split at h
    · cases h
    · rename_i y hy
      split at h
      · cases h
      · rename_i xs hxs
        split at h
        · cases h
        · rename_i ys hys
          obtain ⟨us, hlen, hgo, rfl⟩ := lcFin_form h
          refine WN.we fun fr σ H o Q gQ => ?_
          refine le_E (pe_lc (own := [(ni, i), (nj, j), (nl, l)]) (g := gTup X.K 2 (gCons (gName i) (gCons (gTup X.K 2 (gCons (gName j) (gCons (gName l) gNil))) gNil))) (tt := tYes) at_.calm (by rw [at_.nm]; exact at_.nd) wpI_pi (blkOk_by (by rw [at_.nm, at_.sce]; exact hok))
            (fun s H C cl fp => pg_tup (blk_at at_).calm (pgs_cons (pgn (blk_at at_) i hi (.inl li)) (pgs_cons (pg_tup (blk_at at_).calm (pgs_cons (pgn (blk_at at_) j hj (.inl lj)) (pgs_cons (pgn (blk_at at_) l hl' (.inl ll)) pgs_nil))) pgs_nil))) (fun _ _ _ _ _ => pts_nil) teBlk_pe (by intro _; rfl)) ?_
          refine okZ_iter B hm2 hg2 hg hs ht ha hb at_ hx hy hxs hys hl hr o fun J H1 x1 o1 itx D hD => ?_
          refine lc_coreP (js := [i, j, l]) (tgt := tgtZ G.Z i j l) (scope := scope) (elt := elt) (tt := tYes) (fun v x0 frx H2 R hov hv ev k => ?_) o1 itx hD hlen hgo (fun v o frx σ2 H2 Q hv o2 q2 => ?_) (fun v u X' hX hv => ?_) fun xs' H' x2 o2 rv => gQ _ _ D xs' H' (q _ (by rw [← absP]; exact .p _)) (x1.trans x2) o2 rv
          · obtain ⟨o', ho'⟩ := hov
            obtain ⟨kv, xv, yv, u, rfl, hu, rfl⟩ := lcZ_form ho'
            simp only [absP, absPs] at hv
            obtain ⟨p3, vs3, rfl, t3, r3⟩ := hv
            cases r3 with
            | cons ra rb =>
              cases rb with
              | cons rb rc =>
                cases rc
                obtain ⟨p4, vs4, rfl, t4, r4⟩ := rb
                cases r4 with
                | cons r5 r6 =>
                  cases r6 with
                  | cons r6 r7 =>
                    cases r7
                    rename_i v1 w1 w2
                    exact ⟨p3, _, rfl, t3.sq, rfl, _, _, rfl, _, _, rfl, ⟨p4, _, rfl, t4.sq, rfl, _, _, rfl, _, _, rfl, rfl, rfl, k _ (wipe_setVs (js := [i, j, l]) (vs := [v1, w1, w2])) (((ev.set ra i).set r5 j).set r6 l)⟩⟩
          · obtain ⟨_, _, _, u, _, _, rfl⟩ := lcZ_form hv
            exact q2 H2 (.refl _ _) o2
          · obtain ⟨kv, xv, yv, u', rfl, hu, e1⟩ := lcZ_form hv
            cases e1
            intro Kt q
            exact hE X' (relS_at at_ hX) _ ow (.p u) hu mo qs _ hl ((((hr.wipe [i, j, l]).set (.p kv) i).set (.p xv) j).set (.p yv) l) Kt fun A hA => q A hA.pE
end
end EV
namespace EV
open PySem PySem.Spec L2 AL
open PyProof.Rows hiding St
section
variable {P : Program} {w : World} {K : PySem.W.Frag} {mg : Str → Option Value} {base : Heap} {N : List Str} {sc : Scope} {df : Bool} {k : Nat} {X : Cx} {ρ : Rho} {m : Mem} {pos p : Pos} {e f g : Expr} {es : List Expr} {Kt : KA}
/-- e[::-1] of a list -/
theorem we_revL {kk : Nat} {p1 p2 p3 : Pos} (h : WE X e ρ m fun A m1 => ∃ As, IsLs m1 A As ∧ Kt (lst As.reverse) m1) : WE X (.Subscript e (.Slice none none (some (.UnaryOp .USub (.Constant (.int 1) kk p1) p2)) p3) pos) ρ m Kt := by
  intro fr σ H o Q gQ
  refine le_E (pe_revL wpE_pe) ?_
  refine h.to o fun A m1 v H1 ⟨As, hA, q⟩ x1 o1 r1 => ?_
  obtain ⟨a, vs, rfl, hv, rv⟩ := hA _ _ _ _ o1.mem r1
  refine ⟨a, vs, rfl, .inl (.inl hv), fun D hD => ?_⟩
  have xt : Ext (Ms fr m1) H1 (Ms fr m1) (upd H1 D (.lst vs.reverse)) := .alloc hD
  have nD : D ∉ Ms fr m1 := fun z => by
    obtain ⟨o', q'⟩ := o1.mem.has z
    rw [hD] at q'; cases q'
  have rr : ∀ {As : List AV} {vs : List V} {H2 : Hp}, AllV X.K (Ms fr m1) H2 As vs → AllV X.K (Ms fr m1) H2 As.reverse vs.reverse := by
    intro As vs H2 r
    induction r with
    | nil => exact .nil
    | cons r t ih => rw [List.reverse_cons, List.reverse_cons]; exact ih.append (.cons r .nil)
  exact gQ _ m1 _ _ q (x1.trans xt) ⟨o1.env.st xt, o1.mem.alloc hD⟩ ⟨D, vs.reverse, rfl, ⟨upd_same, nD⟩, rr (rv.st xt)⟩
theorem chain_go {op op' : CmpOp} {c1 c2 : Int → Int → Bool} (ho : OpR X (compareOp op) (rI0 fun i j => .bl (c1 i j))) (ho' : OpR X (compareOp op') (rI0 fun i j => .bl (c2 i j))) {i j : Int} {b : Bool} (ha : Gives X e ρ m fun A => A = AL.int i) (hb : Gives X f ρ m fun A => A = AL.int j) (hc : (c1 i j = false ∧ b = false) ∨ (c1 i j = true ∧ ∃ k, Gives X g ρ m (fun A => A = AL.int k) ∧ b = c2 j k))
    {fr : Frm} {σ : St} {H : Hp} (o : Holds X.K fr ρ m σ H) {Q : VK} (q : ∀ H', Ext (Ms fr m) H (Ms fr m) H' → Holds X.K fr ρ m σ H' → Q (.bl b) H') : tChain (rI0 fun i j => .bl (c1 i j)) (rI0 fun i j => .bl (c2 i j)) (wpE X e) (wpE X f) (wpE X g) σ H Q := by
  refine (ha.to (Kt := fun A m' => A = AL.int i ∧ m = m') fun A hA => ⟨hA, rfl⟩) fr σ H o _ fun A m1 v H1 ⟨eA, em⟩ x1 o1 r1 => ?_
  cases em
  subst eA
  refine (hb.to (Kt := fun A m' => A = AL.int j ∧ m = m') fun A hA => ⟨hA, rfl⟩) fr σ H1 o1 _ fun A m1 u H2 ⟨eA, em⟩ x2 o2 r2 => ?_
  cases em
  subst eA
  refine ⟨i, j, r1, r2, c1 i j, rfl, ?_⟩
  rcases hc with ⟨h1, rfl⟩ | ⟨h1, k, h2, rfl⟩
  · rw [h1, if_neg (by decide)]
    exact q H2 (x1.trans x2) o2
  · rw [h1, if_pos rfl]
    refine (h2.to (Kt := fun A m' => A = AL.int k ∧ m = m') fun A hA => ⟨hA, rfl⟩) fr σ H2 o2 _ fun A m1 y H3 ⟨eA, em⟩ x3 o3 r3 => ?_
    cases em
    subst eA
    exact ⟨j, k, r2, r3, q H3 ((x1.trans x2).trans x3) o3⟩
theorem chain_both {op op' : CmpOp} {c1 c2 : Int → Int → Bool} (ho : OpR X (compareOp op) (rI0 fun i j => .bl (c1 i j))) (ho' : OpR X (compareOp op') (rI0 fun i j => .bl (c2 i j))) {i j : Int} {b : Bool} (ha : Gives X e ρ m fun A => A = AL.int i) (hb : Gives X f ρ m fun A => A = AL.int j) (hc : (c1 i j = false ∧ b = false) ∨ (c1 i j = true ∧ ∃ k, Gives X g ρ m (fun A => A = AL.int k) ∧ b = c2 j k)) (hm : lastMarks [op, op'] [f, g] = false) :
    (Gives X (.Compare e [op, op'] [f, g] pos) ρ m fun A => A = AL.bool b) ∧ GivesT X (.Compare e [op, op'] [f, g] pos) ρ m b := by
  refine ⟨fun Kt q fr σ H o Q gQ => ?_, fun Kt q fr σ H o Q gQ => ?_⟩
  · exact le_E (pe_chain ho ho' wpE_pe wpE_pe wpE_pe hm) (chain_go ho ho' ha hb hc o fun H' x o' => gQ _ m _ H' (q _ rfl) x o' rfl)
  · exact le_T (pt_chain ho ho' wpE_pe wpE_pe wpE_pe hm) (chain_go ho ho' ha hb hc o fun H' x o' => ⟨b, rfl, gQ b m H' q x o'⟩)
end
/-- the comparisons of ints -/
def ordOf : CO → Int → Int → Bool
  | .lt, i, j => decide (i < j)
  | .le, i, j => decide (i ≤ j)
  | .gt, i, j => decide (j < i)
  | .ge, i, j => decide (j ≤ i)
  | _, _, _ => false
theorem ord_op {X : Cx} {o : CO} (h : isOrd o = true) : OpR X (compareOp (coE o)) (rI0 fun i j => .bl (ordOf o i j)) := by
  cases o <;> first | exact op_lt | exact op_le | exact op_gt | exact op_ge | (simp [isOrd] at h)
theorem ord_val {ow : Own} {o : CO} (h : isOrd o = true) {x y : CV} {r : Bool} (hc : cmpop ow o x y = some r) : ∃ i j, x = .p (.int i) ∧ y = .p (.int j) ∧ r = ordOf o i j := by
  cases o <;> first | (simp [isOrd] at h; done) | skip
  all_goals
    unfold cmpop at hc
    simp only at hc
    split at hc
    · cases hc; exact ⟨_, _, rfl, rfl, rfl⟩
    · cases hc
section
variable {G : Gx} {N : List Str} {sc : Scope} {df : Bool} {pos p p1 p2 p3 : Pos} {e f g : Expr} {a b c : CE} {es : List Expr} {cs : CEs}
theorem okE_rev {kk : Nat} (ha : OkE G N sc df a e) : OkE G N sc df (.rev a) (.Subscript e (.Slice none none (some (.UnaryOp .USub (.Constant (.int 1) kk p1) p2)) p3) pos) := fun X at_ ρc ow v h mo qs ρ hl hr Kt q => by
  simp only [evE] at h
  split at h
  · cases h
  · rename_i l hx
    cases h
    exact we_backT ((ha X at_ _ _ _ hx _ _ _ hl hr).to fun A hA => ⟨_, isT hA, by rw [absPs_map, ← List.map_reverse, ← absPs_map, ← absP]; exact q _ (.p _)⟩)
  · rename_i x _ hx
    split at h
    · cases h
    · rename_i l hL
      cases h
      exact we_revL ((ha X at_ _ _ _ hx _ _ _ hl hr).to fun A hA => ⟨_, hA.ls hL, by rw [absPs_map, ← List.map_reverse, ← absPs_map, ← absP]; exact q _ (.p _)⟩)
theorem chn_both {o o2 : CO} (h1 : isOrd o = true) (h2 : isOrd o2 = true) (hm : lastMarks [coE o, coE o2] [f, g] = false) (ha : OkE G N sc df a e) (hb : OkE G N sc df b f) (hc : OkE G N sc df c g) {X : Cx} (at_ : G.At N sc df X) {ρc : Ev} {ow : Own} {v : CV} (h : evE G.T (.chn o o2 a b c) ρc ow = some v) {mo : Mem} {qs : List Addr} {ρ : Rho} (hl : qs.length = ow.length) (hr : RepE G.Z mo qs ρc ρ) :
    ∃ r : Bool, v = .p (.bl r) ∧ (Gives X (.Compare e [coE o, coE o2] [f, g] pos) ρ (mo ++ memW G.Z qs ow) fun A => A = AL.bool r) ∧ GivesT X (.Compare e [coE o, coE o2] [f, g] pos) ρ (mo ++ memW G.Z qs ow) r := by
  simp only [evE] at h
  split at h
  · cases h
  · rename_i x hx
    split at h
    · cases h
    · rename_i y hy
      have mk : ∀ {i j : Int} {r : Bool}, x = .p (.int i) → y = .p (.int j) → ((ordOf o i j = false ∧ r = false) ∨ (ordOf o i j = true ∧ ∃ k, Gives X g ρ (mo ++ memW G.Z qs ow) (fun A => A = AL.int k) ∧ r = ordOf o2 j k)) →
          (Gives X (.Compare e [coE o, coE o2] [f, g] pos) ρ (mo ++ memW G.Z qs ow) fun A => A = AL.bool r) ∧ GivesT X (.Compare e [coE o, coE o2] [f, g] pos) ρ (mo ++ memW G.Z qs ow) r := fun ex ey hh => by
        subst ex ey
        exact chain_both (ord_op h1) (ord_op h2) (fun Kt q => (ha X at_ _ _ _ hx _ _ _ hl hr).to fun A hA => q A (isI hA)) (fun Kt q => (hb X at_ _ _ _ hy _ _ _ hl hr).to fun A hA => q A (isI hA)) hh hm
      split at h
      · cases h
      · rename_i hcmp
        cases h
        obtain ⟨i, j, ex, ey, e3⟩ := ord_val h1 hcmp
        exact ⟨false, rfl, mk ex ey (.inl ⟨e3.symm, rfl⟩)⟩
      · rename_i hcmp
        obtain ⟨i, j, ex, ey, e3⟩ := ord_val h1 hcmp
        split at h
        · cases h
        · rename_i z hz
          split at h
          · cases h
          · rename_i r hcmp2
            cases h
            obtain ⟨j', k, ey', ez, e4⟩ := ord_val h2 hcmp2
            rw [ey] at ey'
            cases ey'
            subst ez
            exact ⟨r, rfl, mk ex ey (.inr ⟨e3.symm, k, fun Kt q => (hc X at_ _ _ _ hz _ _ _ hl hr).to fun A hA => q A (isI hA), e4⟩)⟩
theorem okE_chn {o o2 : CO} (h1 : isOrd o = true) (h2 : isOrd o2 = true) (hm : lastMarks [coE o, coE o2] [f, g] = false) (ha : OkE G N sc df a e) (hb : OkE G N sc df b f) (hc : OkE G N sc df c g) : OkE G N sc df (.chn o o2 a b c) (.Compare e [coE o, coE o2] [f, g] pos) := fun X at_ ρc ow v h mo qs ρ hl hr Kt q => by
  obtain ⟨r, rfl, h3, _⟩ := chn_both (pos := pos) h1 h2 hm ha hb hc at_ h hl hr
  exact h3 Kt fun A hA => q A (by rw [hA, ← absP.eq_2]; exact .p _)
theorem okT_chn {o o2 : CO} (h1 : isOrd o = true) (h2 : isOrd o2 = true) (hm : lastMarks [coE o, coE o2] [f, g] = false) (ha : OkE G N sc df a e) (hb : OkE G N sc df b f) (hc : OkE G N sc df c g) : OkT G N sc df (.chn o o2 a b c) (.Compare e [coE o, coE o2] [f, g] pos) := fun X at_ ρc ow v t h ht mo qs ρ hl hr Kt q => by
  obtain ⟨r, rfl, _, h3⟩ := chn_both (pos := pos) h1 h2 hm ha hb hc at_ h hl hr
  cases ht
  exact h3 Kt q
theorem lastMarks_ord {op op2 : CmpOp} (h2 : behindInMarks op2 g = false) : lastMarks [op, op2] [f, g] = false := h2
end
end EV
namespace EV
open PySem PySem.Spec L2 AL
open PyProof.Rows hiding St
section
variable {K : PySem.W.Frag} {X : Cx}
theorem allV_ints {M : List Addr} {H : Hp} : ∀ {ns : List Int} {vs : List V}, AllV K M H (ns.map AL.int) vs → vs = ns.map V.int
  | [], _, .nil => rfl
  | n :: ns, _, .cons r t => by rw [List.map_cons, ← allV_ints t]; exact congrArg (· :: _) r
theorem abs_pairI {g : Int → Int → Int} : AbsCall K (fun xs H Q => ∃ i j, xs = [V.int i, V.int j] ∧ Q (.int (g i j)) H) fun As m Kt => ∃ i j, As = [AL.int i, AL.int j] ∧ Kt (AL.int (g i j)) m := by
  rintro As m Kt fr ρ σ H vs Q ⟨i, j, rfl, q⟩ o r gt
  cases r with
  | cons r1 t =>
    cases t with
    | cons r2 t =>
      cases t
      exact ⟨i, j, by rw [show _ = V.int i from r1, show _ = V.int j from r2], gt _ m _ H q (.refl _ _) o rfl⟩
theorem maxI_in : ∀ (l : List Int) (a : Int), maxI a l ∈ a :: l ∧ ∀ y ∈ a :: l, y ≤ maxI a l
  | [], a => ⟨by simp [maxI], fun y hy => by simp at hy; simp [maxI, hy]⟩
  | b :: l, a => by
    obtain ⟨h1, h2⟩ := maxI_in l (if b > a then b else a)
    rw [maxI]
    refine ⟨?_, fun y hy => ?_⟩
    · rcases List.mem_cons.mp h1 with e | e
      · rw [e]
        split
        · exact List.mem_cons_of_mem _ List.mem_cons_self
        · exact List.mem_cons_self
      · exact List.mem_cons_of_mem _ (List.mem_cons_of_mem _ e)
    · have h0 := h2 _ List.mem_cons_self
      rcases List.mem_cons.mp hy with e | e
      · subst e
        refine Int.le_trans ?_ h0
        split <;> omega
      · rcases List.mem_cons.mp e with e | e
        · subst e
          refine Int.le_trans ?_ h0
          split <;> omega
        · exact h2 y (List.mem_cons_of_mem _ e)
theorem abs_maxL : AbsCall K (rMax K) fun As m Kt => ∃ A i r, As = [A] ∧ IsLs m A ((i :: r).map AL.int) ∧ Kt (AL.int (maxI i r)) m := by
  rintro As m Kt fr ρ σ H vs Q ⟨A, i, r, rfl, hs, q⟩ o rr g
  cases rr with
  | cons r1 t =>
    cases t
    obtain ⟨p, ys, rfl, h, r2⟩ := hs _ _ _ _ o.mem r1
    rw [allV_ints r2] at h
    refine ⟨p, i :: r, rfl, .inl (.inl h), Nat.succ_pos _, fun m1 h1 h2 => ?_⟩
    obtain ⟨h3, h4⟩ := maxI_in r i
    have e : m1 = maxI i r := Int.le_antisymm (h4 _ h1) (h2 _ h3)
    rw [e]
    exact g _ m _ H q (.refl _ _) o rfl
def rComb : List V → Hp → VK → Prop := fun xs H Q => ∃ i j : Int, xs = [.int i, .int j] ∧ 0 ≤ i ∧ 0 ≤ j ∧ i ≤ 18000 ∧ Q (.int (PySem.W.mcComb i j)) H
theorem cr_comb : CallR X (.builtin "math.comb") rComb := by
  intro pins s σ H vs us Q I r h
  obtain ⟨a, b, rfl, h0, h1, h2, q⟩ := h
  obtain ⟨t, u, rfl⟩ := Vals.int2 r
  exact PySem.W.mc_comb h0 h1 (by omega) (.inr h2) fun _ => ⟨.int _, H, I.tok _, ⟨_, rfl⟩, q⟩
def rLcm : List V → Hp → VK → Prop := fun xs H Q => ∃ i j : Int, xs = [.int i, .int j] ∧ i.natAbs < 2 ^ 64 ∧ j.natAbs < 2 ^ 64 ∧ (((Nat.lcm 1 i.natAbs).lcm j.natAbs : Nat) : Int).natAbs.log2 < 1000 ∧ Q (.int (((Nat.lcm 1 i.natAbs).lcm j.natAbs : Nat) : Int)) H
theorem cr_lcm : CallR X (.builtin "math.lcm") rLcm := by
  intro pins s σ H vs us Q I r h
  obtain ⟨a, b, rfl, h0, h1, h2, q⟩ := h
  obtain ⟨t, u, rfl⟩ := Vals.int2 r
  exact PySem.W.mg_lcm_v h0 h1 rfl (Nat.lt_of_lt_of_le h2 (by show 1000 ≤ 2 ^ 27; decide)) ⟨.int _, H, I.tok _, ⟨_, rfl⟩, q⟩
theorem abs_comb : AbsCall K rComb fun As m Kt => ∃ i j, As = [AL.int i, AL.int j] ∧ 0 ≤ i ∧ 0 ≤ j ∧ i ≤ 18000 ∧ Kt (AL.int (PySem.W.mcComb i j)) m := by
  rintro As m Kt fr ρ σ H vs Q ⟨i, j, rfl, h0, h1, h2, q⟩ o r gt
  cases r with
  | cons r1 t =>
    cases t with
    | cons r2 t =>
      cases t
      exact ⟨i, j, by rw [show _ = V.int i from r1, show _ = V.int j from r2], h0, h1, h2, gt _ m _ H q (.refl _ _) o rfl⟩
theorem abs_lcm : AbsCall K rLcm fun As m Kt => ∃ i j : Int, As = [AL.int i, AL.int j] ∧ i.natAbs < 2 ^ 64 ∧ j.natAbs < 2 ^ 64 ∧ (((Nat.lcm 1 i.natAbs).lcm j.natAbs : Nat) : Int).natAbs.log2 < 1000 ∧ Kt (AL.int (((Nat.lcm 1 i.natAbs).lcm j.natAbs : Nat) : Int)) m := by
  rintro As m Kt fr ρ σ H vs Q ⟨i, j, rfl, h0, h1, h2, q⟩ o r gt
  cases r with
  | cons r1 t =>
    cases t with
    | cons r2 t =>
      cases t
      exact ⟨i, j, by rw [show _ = V.int i from r1, show _ = V.int j from r2], h0, h1, h2, gt _ m _ H q (.refl _ _) o rfl⟩
end
/-- what the program knows by the name x: the k-th further built-in -/
def XOk (mg : Str → Option Value) (k : Nat) (x : Str) : Prop := (k = 0 ∧ x = "max" ∧ mg "max" = none) ∨ (k = 1 ∧ x = "max" ∧ mg "max" = none) ∨ (k = 2 ∧ x = "comb" ∧ mg "comb" = some (.builtin "math.comb")) ∨ (k = 3 ∧ x = "lcm" ∧ mg "lcm" = some (.builtin "math.lcm"))
theorem intsOf_map : ∀ {l : List PV} {ns : List Int}, intsOf l = some ns → ∀ Z : Cls, absPs Z l = ns.map AL.int
  | [], ns, h, Z => by simp only [intsOf, Option.some.injEq] at h; subst h; rfl
  | v :: l, ns, h, Z => by
    cases v with
    | int i =>
      simp only [intsOf] at h
      split at h
      · rename_i l' hl
        cases h
        rw [absPs, intsOf_map hl Z, absP]; rfl
      · cases h
    | _ => simp [intsOf] at h
section
variable {G : Gx} {N : List Str} {sc : Scope} {df : Bool} {pos p : Pos} {e f : Expr} {a b : CE} {es : List Expr} {cs : CEs}
theorem okE_xb {k : Nat} {x : Str} (hx : XOk G.mg k x) (hg : sc.names.lookup x = some .globalImplicit) (hs : (e :: es).all notStar = true) (hl' : OkL G N sc df cs (e :: es)) : OkE G N sc df (.xb k cs) (.Call (.Name x p) (e :: es) [] pos) := fun X at_ ρc ow v h mo qs ρ hl hr Kt q => by
  have s1 : starEach (e :: es) X.env = (false, eval e X.env) :: starEach es X.env := star1 (by simp [List.all_cons, Bool.and_eq_true] at hs; exact hs.1) _ _
  have s2 : (backTo pos (starEach es X.env)).any (·.1) = false := star_none (by rw [List.all_cons, Bool.and_eq_true] at hs; exact hs.2) _ _
  simp only [evE] at h
  split at h
  · cases h
  · rename_i vs hvs
    split at h
    · rename_i u hu
      cases h
      have ga := hl' X at_ _ _ _ hvs _ _ _ hl hr
      rcases hx with ⟨rfl, rfl, hm⟩ | ⟨rfl, rfl, hm⟩ | ⟨rfl, rfl, hm⟩ | ⟨rfl, rfl, hm⟩
      · unfold xblt at hu
        split at hu <;> first | (exfalso; omega) | skip
        · split at hu
          · rename_i a l hL
            split at hu
            · rename_i i r hI
              cases hu
              refine we_callB at_ (cr_max at_.calm) abs_maxL hg hm (by decide +kernel) (ga _ fun As hAs => ?_) (by decide) (by decide) s1 s2
              cases hAs with
              | cons r1 t =>
                cases t
                exact ⟨_, i, r, rfl, by rw [← intsOf_map hI G.Z]; exact r1.ls hL, q _ (by rw [← absP]; exact .p _)⟩
            · cases hu
          · cases hu
        · cases hu
      · unfold xblt at hu
        split at hu <;> first | (exfalso; omega) | skip
        · cases hu
          refine we_callB at_ (call_max2 at_.calm) abs_pairI hg hm (by decide +kernel) (ga _ fun As hAs => ?_) (by decide) (by decide) s1 s2
          cases hAs with
          | cons r1 t =>
            cases t with
            | cons r2 t =>
              cases t
              exact ⟨_, _, by rw [isI r1, isI r2], q _ (by rw [← absP]; exact .p _)⟩
        · cases hu
      · unfold xblt at hu
        split at hu <;> first | (exfalso; omega) | skip
        · split at hu
          · rename_i hc
            simp only [Bool.and_eq_true, decide_eq_true_eq] at hc
            cases hu
            refine we_callG at_ cr_comb abs_comb hg hm (ga _ fun As hAs => ?_) (by decide) s1 s2
            cases hAs with
            | cons r1 t =>
              cases t with
              | cons r2 t =>
                cases t
                exact ⟨_, _, by rw [isI r1, isI r2], hc.1.1, hc.1.2, hc.2, q _ (by rw [← absP]; exact .p _)⟩
          · cases hu
        · cases hu
      · unfold xblt at hu
        split at hu <;> first | (exfalso; omega) | skip
        · split at hu
          · rename_i hc
            simp only [Bool.and_eq_true, decide_eq_true_eq] at hc
            cases hu
            refine we_callG at_ cr_lcm abs_lcm hg hm (ga _ fun As hAs => ?_) (by decide) s1 s2
            cases hAs with
            | cons r1 t =>
              cases t with
              | cons r2 t =>
                cases t
                exact ⟨_, _, by rw [isI r1, isI r2], hc.1.1, hc.1.2, hc.2, q _ (by rw [← absP]; exact .p _)⟩
          · cases hu
        · cases hu
    · cases h
end
end EV
namespace EV
open PySem PySem.Spec L2 AL
open PyProof.Rows hiding St
def maxDf (d : Int) : List Int → Int
  | [] => d
  | i :: r => maxI i r
def rMaxDf (K : PySem.W.Frag) : List V → List V → Hp → VK → Prop := fun xs zs H Q => ∃ (a : Addr) (ns : List Int) (d : Int), xs = [.ref a] ∧ zs = [.int d] ∧ SqL K H a (ns.map V.int) ∧ Q (.int (maxDf d ns)) H
theorem maxOf_I : ∀ (l : List Int) (a : Int), PySem.W.maxOf a l = maxI a l
  | [], a => rfl
  | b :: l, a => by
    have := maxOf_I l (if b > a then b else a)
    rw [maxI, ← this]
    unfold PySem.W.maxOf
    rw [List.foldl_cons]
    congr 1
    show (if decide (a < b) = true then b else a) = if b > a then b else a
    by_cases h : a < b
    · rw [if_pos (by simpa using h), if_pos h]
    · rw [if_neg (by simpa using h), if_neg h]
section
variable {K : PySem.W.Frag} {X : Cx}
theorem cr_maxDf (hc : X.calm = true) (hu : X.A.units + 64 < cLine) : CallRK X (.builtin "max") ["default"] (rMaxDf X.K) := by
  intro pins s σ H xs zs us ws Q I rx rz h
  obtain ⟨a, ns, d, rfl, rfl, hs, q⟩ := h
  obtain ⟨its, rv, hl, _⟩ := I.list hs
  rw [Vals.ref1 rx]
  cases rz with
  | cons rd t =>
    cases t
    obtain ⟨t, rfl⟩ := rd
    have hi := rv.ints
    refine PySem.W.max_list_datum_default (α := Int) (I.ok.hd hc) hl.isList (PySem.W.HoldAll.of_ints hi) (by show X.A.units + 1 + 0 < cLine; omega) (fun e h' tk hk => ?_) fun y ys i v h' tk e hv hh hk => ?_
    · subst e
      exact ⟨.int _, H, I.kept hk, ⟨_, rfl⟩, q⟩
    · subst e
      obtain ⟨x, hx, t', ev⟩ : ∃ x, (y :: ys)[i]? = some x ∧ ∃ t', v = .int x t' := by
        have := hi
        have key : ∀ {us : List Value} {ns : List Int} {i : Nat}, IntsAre us ns → us[i]? = some v → ∃ x, ns[i]? = some x ∧ ∃ t', v = .int x t' := by
          intro us ns i h
          induction h generalizing i with
          | nil => intro h; simp at h
          | cons n t r ih =>
            intro h
            cases i with
            | zero => simp at h; subst h; exact ⟨n, rfl, t, rfl⟩
            | succ i => simp at h; exact ih h
        exact key hi (by simpa using hv)
      subst ev
      have em : x = PySem.W.maxOf y ys := by
        obtain ⟨as, r⟩ := hh
        cases r
        rfl
      rw [maxOf_I] at em
      subst em
      exact ⟨.int _, H, I.kept hk, ⟨_, rfl⟩, q⟩
end
section
variable {P : Program} {w : World} {K : PySem.W.Frag} {mg : Str → Option Value} {base : Heap} {N : List Str} {sc : Scope} {df : Bool} {k : Nat} {X : Cx} {ρ : Rho} {m : Mem} {pos p kpos : Pos} {e f g : Expr} {es : List Expr} {Kt : KA}
theorem we_maxDf (a : At P w K mg base N sc df k X) (hg : sc.names.lookup ("max" : Str) = some .globalImplicit) (hm : mg "max" = none) (hs : notStar e = true) (h : WE X e ρ m fun A m1 => WE X f ρ m1 fun B m2 => ∃ ns d, IsLs m2 A (ns.map AL.int) ∧ B = AL.int d ∧ Kt (AL.int (maxDf d ns)) m2) :
    WE X (.Call (.Name "max" p) [e] [⟨some "default", f, kpos⟩] pos) ρ m Kt := by
  intro fr σ H o Q gQ
  have s1 := star1 hs [] X.env
  have hu : X.A.units + 64 < cLine := hu64 a
  refine le_E (pe_callBK (ks := ["default"]) (cr_maxDf a.calm hu) (gl_of a hg) (by rw [a.mt]; exact hm) (by decide +kernel) (pa_cons wpE_pe pa_nil s1) (pk_cons wpE_pe pk_nil) (by decide) (by decide) (by rw [s1]; rfl) (by rw [s1]; rfl) rfl rfl rfl) ?_
  refine h.to o fun A m1 v H1 h1 x1 o1 r1 => h1.to o1 fun B m2 u H2 ⟨ns, d, hA, eB, q⟩ x2 o2 r2 => ?_
  subst eB
  obtain ⟨p1, ys, rfl, hv, rv⟩ := hA _ _ _ _ o2.mem (A.st r1 x2)
  rw [allV_ints rv] at hv
  exact ⟨p1, ns, d, rfl, by rw [show u = V.int d from r2], .inl (.inl hv), gQ _ m2 _ H2 q (x1.trans x2) o2 rfl⟩
end
section
variable {G : Gx} {N : List Str} {sc : Scope} {df : Bool} {pos p kpos : Pos} {e f : Expr} {a b : CE}
theorem okE_mxd (hm : G.mg "max" = none) (hg : sc.names.lookup ("max" : Str) = some .globalImplicit) (hs : notStar e = true) (ha : OkE G N sc df a e) (hb : OkE G N sc df b f) : OkE G N sc df (.mxd a b) (.Call (.Name "max" p) [e] [⟨some "default", f, kpos⟩] pos) := fun X at_ ρc ow v h mo qs ρ hl hr Kt q => by
  simp only [evE] at h
  split at h
  · cases h
  · rename_i x hx
    split at h
    · rename_i z hz
      split at h
      · cases h
      · rename_i l hL
        have go : ∀ ns, intsOf l = some ns → v = .p (.int (maxDf z ns)) → WE X (.Call (.Name "max" p) [e] [⟨some "default", f, kpos⟩] pos) ρ (mo ++ memW G.Z qs ow) Kt := fun ns hI ev => by
          subst ev
          refine we_maxDf at_ hg hm hs ((ha X at_ _ _ _ hx _ _ _ hl hr).to fun A hA => (hb X at_ _ _ _ hz _ _ _ hl hr).to fun B hB => ⟨ns, z, by rw [← intsOf_map hI G.Z]; exact hA.ls hL, isI hB, q _ (by rw [← absP]; exact .p _)⟩)
        split at h
        · rename_i hI
          cases h
          exact go [] hI rfl
        · rename_i i r hI
          cases h
          exact go (i :: r) hI rfl
        · cases h
    · cases h
end
end EV
namespace EV
open PySem PySem.Spec L2 AL
open PyProof.Rows hiding St
/-! calls of a local name that holds a def -/
/-- the def with the number n: where it lies, what it does -/
def HeldOk (G : Gx) (n : Nat) : Prop := ∃ j fd ps, j ≤ G.k ∧ FnOk G.P G.w G.K G.mg G.base CX0 j (G.Z.fa n) fd ps (spOf G.K (C_call G.Z (G.T.call n))) ∧ PySem.W.keepIn G.K (.ref (G.Z.fa n)) = true ∧ Binds G.K fd ps []
section
variable {G : Gx} {N : List Str} {sc : Scope} {df : Bool} {pos p : Pos} {e : Expr} {es : List Expr} {cs : CEs}
theorem okE_callv {i : Nat} {x : Str} (F : ∀ n, G.T.call n ≠ (fun _ => none) → HeldOk G n) (hi : N[i]? = some x) (hv : sc.names.lookup x = some .local ∨ sc.names.lookup x = some .cell ∨ sc.names.lookup x = some .free) (hd : (x == ("__debug__" : Str)) = false) (hcd : (x == ("__classdict__" : Str)) = false) (hs : (e :: es).all notStar = true) (hL : OkL G N sc df cs (e :: es)) :
    OkE G N sc df (.callv i cs) (.Call (.Name x p) (e :: es) [] pos) := fun X at_ ρc ow v h mo qs ρ hl hr Kt q fr σ H o Q gQ => by
  rw [List.all_cons, Bool.and_eq_true] at hs
  simp only [evE] at h
  split at h
  · rename_i n hn
    split at h
    · cases h
    · rename_i vs hvs
      split at h
      · rename_i u hu
        cases h
        obtain ⟨j, fd, ps, hj, F, hk, hb⟩ := F n (fun e => by rw [e] at hu; cases hu)
        have hrm := at_.room.mono hj
        obtain ⟨A, hA, rA⟩ := hr.get hn
        have eA : A = AL.val (.ref (G.Z.fa n)) := by rw [rA.pE, absP]
        subst eA
        have hσ : σ[i]? = some (some (.ref (G.Z.fa n))) := by
          obtain ⟨w, hw, rw'⟩ := o.env.get hA
          rw [hw, show w = V.ref (G.Z.fa n) from rw']
        have e1 := at_.prog
        have e2 := at_.wd
        have e3 := at_.kt
        have e4 := at_.mt
        have e5 := at_.bas
        rw [← e1, ← e2, ← e4, ← e5] at F
        refine le_E (pe_callL (E := E0) (dvs := []) (ds := []) (by rw [e3]; exact F) hrm (by rw [at_.nm]; exact hi) (by rw [at_.sce]; exact hv) (by rw [e3]; exact hk) (by rw [e3]; exact hb) .nil pass0 wpA_pa hd hcd (star1 hs.1 _ _) (star_none hs.2 _ _)) ?_
        refine ⟨hσ, hL X at_ _ _ _ hvs _ _ _ hl hr (fun As m1 => ∃ mc mf, m1 = mc ++ mf ∧ C_call G.Z (G.T.call n) As mc fun A mc' => Kt A (mc' ++ mf)) (fun As hAs => ⟨_, [], by rw [List.append_nil], asO ow vs, u, rep_asO hl hAs, hu, by show Kt _ (_ ++ []); rw [List.append_nil]; exact q _ (.p u)⟩) fr σ H o _ fun As m1 vs' H1 ⟨mc, mf, em, hC⟩ x1 o1 r1 => ?_⟩
        subst em
        rw [List.append_nil]
        have key := call_sp hC o1 r1 (gQ.from x1)
        rw [e3] at key
        exact key _
      · cases h
  · cases h
end
end EV
namespace EV
open PySem PySem.Spec L2 AL
open PyProof.Rows hiding St
section
variable {G : Gx} {N : List Str} {sc : Scope} {df : Bool} {pos apos : Pos} {e f : Expr} {a b : CE}
/-- a tuple as it stands, read as a tuple -/
theorem okE_cast (ha : OkE G N sc df a e) : OkE G N sc df (.cast a) e := fun X at_ ρc ow v h mo qs ρ hl hr Kt q => by
  simp only [evE] at h
  split at h
  · rename_i l hx
    cases h
    intro fr σ H o Q g
    refine (ha X at_ _ _ _ hx _ _ _ hl hr).to (Kt := fun A m' => RepC G.Z mo qs (.p (.tun l)) A ∧ m' = mo ++ memW G.Z qs ow) (fun A hA => ⟨hA, rfl⟩) fr σ H o _ fun A m1 v H1 ⟨hA, em⟩ x1 o1 r1 => ?_
    subst em
    rw [hA.pE, absP] at r1
    exact g _ _ v H1 (q (absP G.Z (.tup l)) (.p _)) x1 o1 (by rw [absP]; exact tun_tup r1)
  · exact ha X at_ _ _ _ h _ _ _ hl hr Kt q
theorem okE_cnt (hbase : baseOk e = true) (hline : (apos.endLine == pos.line) = true) (hs : notStar f = true) (hfew : ∀ env, ((backTo pos (starEach (f :: []) env)).all (fun x => !x.1) && (backToKw pos (keywordEach [] env)).all (fun x => x.1.isSome)
      && decide ((f :: ([] : List Expr)).length + ([] : List Keyword).length + (if ([] : List Keyword).isEmpty then 0 else 1) < 30)) = true) (ha : OkE G N sc df a e) (hb : OkE G N sc df b f) : OkE G N sc df (.cnt a b) (.Call (.Attribute e "count" apos) [f] [] pos) := fun X at_ ρc ow v h mo qs ρ hl hr Kt q => by
  simp only [evE] at h
  split at h
  · rename_i l hx
    split at h
    · rename_i w hy
      split at h
      · rename_i hc
        cases h
        simp only [Bool.and_eq_true, decide_eq_true_eq] at hc
        obtain ⟨⟨⟨⟨c1, c2⟩, c3⟩, c4⟩, c5⟩ := hc
        refine we_countT at_ ((ha X at_ _ _ _ hx _ _ _ hl hr).to fun A hA => ⟨absPs G.Z l, by rw [hA.pE, absP], (hb X at_ _ _ _ hy _ _ _ hl hr).to fun B hB => ⟨Ds l, D w, allDat_abs G.Z _ l c1, by rw [hB.pE]; exact isDat_abs G.Z _ w c2, c3, c4, c5, q _ ?_⟩⟩) (baseOk_eq hbase _ _) (hfew _) hline (star1 hs _ _)
        rw [← absP]; exact .p _
      · cases h
    · cases h
  · cases h
end
end EV
namespace EV
open PySem PySem.Spec L2 AL
open PyProof.Rows hiding St
/-! texts -/
theorem RepC.sE {Z : Cls} {mo : Mem} {qs : List Addr} {x : Str} {A : AV} (h : RepC Z mo qs (.p (.str x)) A) : A = AL.str x := by rw [h.pE, absP]
theorem big_line {n : Nat} (h : n ≤ big) : n ≤ sizeLine := Nat.le_trans h (by show 100000 ≤ sizeLine; decide)
section
variable {G : Gx} {N : List Str} {sc : Scope} {df : Bool} {pos p apos : Pos} {e f : Expr} {c a b : CE} {es : List Expr} {cs : CEs}
theorem okE_sadd (ha : OkE G N sc df a e) (hb : OkE G N sc df b f) : OkE G N sc df (.sadd a b) (.BinOp e .Add f pos) := fun X at_ ρc ow v h mo qs ρ hl hr Kt q => by
  simp only [evE] at h
  split at h
  · rename_i x hx
    split at h
    · rename_i y hy
      split at h
      · rename_i hz
        cases h
        exact we_sadd ((ha X at_ _ _ _ hx _ _ _ hl hr).to fun A hA => (hb X at_ _ _ _ hy _ _ _ hl hr).to fun B hB => ⟨x, y, hA.sE, hB.sE, big_line hz, q _ (by have := RepC.p (Z := G.Z) (mo := mo) (qs := qs) (.str (x ++ y)); rwa [absP] at this)⟩)
      · cases h
    · cases h
  · cases h
theorem okE_str1 (hm : G.mg "str" = none) (hg : sc.names.lookup ("str" : Str) = some .globalImplicit) (hs : notStar e = true) (ha : OkE G N sc df a e) : OkE G N sc df (.str1 a) (.Call (.Name "str" p) [e] [] pos) := fun X at_ ρc ow v h mo qs ρ hl hr Kt q => by
  simp only [evE] at h
  split at h
  · rename_i i hx
    split at h
    · rename_i hz
      cases h
      exact b_strI at_ hm hg (wa1 hs (ha X at_ _ _ _ hx _ _ _ hl hr) fun A hA => ⟨i, by rw [isI hA], by omega, q _ (by have := RepC.p (Z := G.Z) (mo := mo) (qs := qs) (.str (toString i)); rwa [absP] at this)⟩) (star1 hs _ _) rfl
    · cases h
  · cases h
theorem okE_fmt (ha : OkE G N sc df a e) : OkE G N sc df (.fmt a) (.FormattedValue e (-1) none pos) := fun X at_ ρc ow v h mo qs ρ hl hr Kt q => by
  simp only [evE] at h
  split at h
  · rename_i i hx
    split at h
    · rename_i hz
      cases h
      exact we_fmt ((ha X at_ _ _ _ hx _ _ _ hl hr).to fun A hA => .inr ⟨i, by rw [isI hA], by omega, q _ (by have := RepC.p (Z := G.Z) (mo := mo) (qs := qs) (.str (toString i)); rwa [absP] at this)⟩)
    · cases h
  · rename_i x hx
    split at h
    · rename_i hz
      cases h
      exact we_fmt ((ha X at_ _ _ _ hx _ _ _ hl hr).to fun A hA => .inl ⟨x, hA.sE, big_line hz, q _ (by have := RepC.p (Z := G.Z) (mo := mo) (qs := qs) (.str x); rwa [absP] at this)⟩)
    · cases h
  · cases h
inductive OkEs (G : Gx) (N : List Str) (sc : Scope) (df : Bool) : CEs → List Expr → Prop
  | nil : OkEs G N sc df .nil []
  | cons {c : CE} {e : Expr} {cs : CEs} {es : List Expr} (h : OkE G N sc df c e) (t : OkEs G N sc df cs es) : OkEs G N sc df (.cons c cs) (e :: es)
theorem wj_of {X : Cx} (at_ : G.At N sc df X) {ρc : Ev} {ow : Own} {mo : Mem} {qs : List Addr} {ρ : Rho} (hl : qs.length = ow.length) (hr : RepE G.Z mo qs ρc ρ) : ∀ {cs : CEs} {es : List Expr} (H : OkEs G N sc df cs es) {vs : List CV} {ps : List PV} {ys : List Str} {acc out : Str} {Kj : Str → Mem → Prop},
    evL G.T cs ρc ow = some vs → allP vs = some ps → strsOf ps = some ys → catS acc ys = some out → Kj out (mo ++ memW G.Z qs ow) → WJ X es ρ (mo ++ memW G.Z qs ow) acc Kj := by
  intro cs es H
  induction H with
  | nil =>
    intro vs ps ys acc out Kj h1 h2 h3 h4 q
    simp only [evL] at h1; cases h1
    simp only [allP] at h2; cases h2
    simp only [strsOf] at h3; cases h3
    simp only [catS] at h4; cases h4
    exact wj_nil q
  | cons h t ih =>
    intro vs ps ys acc out Kj h1 h2 h3 h4 q
    simp only [evL] at h1
    split at h1
    · cases h1
    · rename_i v hv
      split at h1
      · cases h1
      · rename_i us hu
        cases h1
        cases v with
        | p w =>
          simp only [allP] at h2
          split at h2
          · rename_i pl hp
            cases h2
            cases w with
            | str y =>
              simp only [strsOf] at h3
              split at h3
              · rename_i yl hyl
                cases h3
                simp only [catS] at h4
                split at h4
                · rename_i hz
                  exact wj_cons ((h X at_ _ _ _ hv _ _ _ hl hr).to fun A hA => ⟨y, hA.sE, big_line hz, ih hu hp hyl h4 q⟩)
                · cases h4
              · cases h3
            | _ => simp [strsOf] at h3
          · cases h2
        | _ => simp [allP] at h2
theorem okE_fstr {v1 v2 : Expr} {rest : List Expr} (H : OkEs G N sc df cs (v1 :: v2 :: rest)) : OkE G N sc df (.fstr cs) (.JoinedStr (v1 :: v2 :: rest) pos) := fun X at_ ρc ow v h mo qs ρ hl hr Kt q => by
  simp only [evE] at h
  split at h
  · cases h
  · rename_i vs hv
    split at h
    · cases h
    · rename_i ps hp
      split at h
      · cases h
      · rename_i ys hy
        split at h
        · rename_i out ho
          cases h
          exact we_fstr (wj_of at_ hl hr H hv hp hy ho (q _ (by have := RepC.p (Z := G.Z) (mo := mo) (qs := qs) (.str out); rwa [absP] at this)))
        · cases h
theorem strsOf_abs {Z : Cls} : ∀ {l : List PV} {ys : List Str}, strsOf l = some ys → absPs Z l = ys.map AL.str
  | [], _, h => by cases h; rw [absPs]; rfl
  | v :: r, ys, h => by
    cases v with
    | str x =>
      simp only [strsOf] at h
      split at h
      · rename_i l hl
        cases h
        rw [absPs, absP, strsOf_abs hl]
        rfl
      · cases h
    | _ => simp [strsOf] at h
theorem okE_join {o : Expr} (hbase : baseOk o = true) (hline : (apos.endLine == pos.line) = true) (hs : notStar e = true) (ha : OkE G N sc df a o) (hb : OkE G N sc df b e) : OkE G N sc df (.join a b) (.Call (.Attribute o "join" apos) [e] [] pos) := fun X at_ ρc ow v h mo qs ρ hl hr Kt q => by
  simp only [evE] at h
  split at h
  · rename_i x hx
    split at h
    · cases h
    · rename_i y hy
      split at h
      · cases h
      · rename_i l hl2
        split at h
        · cases h
        · rename_i ys hys
          split at h
          · rename_i hz
            cases h
            refine we_join ((ha X at_ _ _ _ hx _ _ _ hl hr).to fun A hA => ⟨x, hA.sE, (hb X at_ _ _ _ hy _ _ _ hl hr).to fun B hB => ⟨ys, ?_, Nat.le_trans hz (by decide), q _ (by have := RepC.p (Z := G.Z) (mo := mo) (qs := qs) (.str (Txt.join x ys)); rwa [absP] at this)⟩⟩) (baseOk_eq hbase _ _) hline (star1 hs _ _)
            rw [← strsOf_abs (Z := G.Z) hys]
            exact hB.sq hl2
          · cases h
  · cases h
/-- str(x) of an instance: the class's own def -/
def StrOk (G : Gx) (c n : Nat) : Prop := ∃ j g fd ps, PySem.W.findIn G.K (.ref (G.Z.at_ c)) "__str__" = some (some (.ref g)) ∧ PySem.W.isFn G.K (.ref g) = true ∧ L2.Binds G.K fd ps [] ∧ FnOk G.P G.w G.K G.mg G.base CX0 j g fd ps (spOf G.K (C_call G.Z (G.T.call n))) ∧ j + 2 ≤ G.k
theorem okE_stri {n m : Nat} (F : StrOk G n m) (hm : G.mg "str" = none) (hg : sc.names.lookup ("str" : Str) = some .globalImplicit) (hs : notStar e = true) (ha : OkE G N sc df a e) : OkE G N sc df (.stri n m a) (.Call (.Name "str" p) [e] [] pos) := fun X at_ ρc ow v h mo qs ρ hl hr Kt q fr σ H o Q gQ => by
  simp only [evE] at h
  split at h
  · rename_i c' l hx
    split at h
    · rename_i hc
      have ec : c' = n := by simpa using hc
      subst ec
      split at h
      · rename_i x hu
        cases h
        obtain ⟨j, g, fd, ps, h1, h2, h3, h4, h5⟩ := F
        have hu' : X.A.units + 64 < cLine := hu_at at_
        have hrm := at_.room.mono h5
        have e1 := at_.prog
        have e2 := at_.wd
        have e3 := at_.kt
        have e4 := at_.mt
        have e5 := at_.bas
        rw [← e1, ← e2, ← e4, ← e5] at h4
        refine le_E (pe_callTy (call_strOwn (X := X) (by rw [e3]; exact h1) (by rw [e3]; exact h2) (by rw [e3]; exact h3) (by rw [e3]; exact h4) hrm hu') (gl_of at_ hg) (by rw [at_.mt]; exact hm) (by decide +kernel) wpA_pa (by decide) (by decide) (star1 hs _ _) rfl) ?_
        refine wa1 (Kl := fun As m1 => As = [absP G.Z (.ins c' l)] ∧ m1 = mo ++ memW G.Z qs ow) hs (ha X at_ _ _ _ hx _ _ _ hl hr) (fun A hA => ⟨by rw [hA.pE], rfl⟩) fr σ H o _ fun As m1 vs H1 ⟨eA, em⟩ x1 o1 r1 => ?_
        subst eA em
        cases r1 with
        | cons r t =>
          cases t
          have r' := r
          rw [absP] at r'
          obtain ⟨q0, dx, fs, rfl, hH, hn, hf⟩ := r'
          refine ⟨q0, dx, fs, rfl, hH, ?_⟩
          have hC : C_call G.Z (G.T.call m) [absP G.Z (.ins c' l)] (mo ++ memW G.Z qs ow) fun A mc' => A = AL.str x ∧ mc' = mo ++ memW G.Z qs ow := ⟨[.p (.ins c' l)], .str x, .cons (.p _) .nil, hu, by rw [absP], rfl⟩
          have key := call_sp (K := X.K) (mf := []) (mc := mo ++ memW G.Z qs ow) (Kt := fun A m' => A = AL.str x ∧ m' = mo ++ memW G.Z qs ow) (Q := fun v H' => ∃ y : Str, v = V.str y ∧ Q (V.str y) H') (by simpa using hC) (by rw [List.append_nil]; exact o1) (by rw [List.append_nil]; exact Paired.cons r .nil) (fun A m' v H' ⟨eA, em⟩ x2 o2 r2 => by
            subst eA em
            refine ⟨x, r2, ?_⟩
            rw [List.append_nil] at x2
            refine gQ (AL.str x) _ _ H' (q _ (by have := RepC.p (Z := G.Z) (mo := mo) (qs := qs) (.str x); rwa [absP] at this)) (x1.trans x2) o2 rfl)
          rw [e3] at key
          exact key _
      · cases h
    · cases h
  · cases h
end
end EV
namespace EV
open PySem PySem.Spec L2 AL
open PyProof.Rows hiding St
/-! dicts of one comprehension -/
theorem dcGo_app {f : PV → Option (List Key × PV)} : ∀ {l r : List PV} {us : List (List Key × PV)}, dcGo f (l ++ r) = some us → ∃ u1 u2, dcGo f l = some u1 ∧ dcGo f r = some u2 ∧ us = u1 ++ u2
  | [], r, us, h => ⟨[], us, rfl, h, rfl⟩
  | v :: l, r, us, h => by
    rw [List.cons_append] at h
    simp only [dcGo] at h ⊢
    split at h
    · cases h
    · rename_i u hu
      split at h
      · rename_i l' hl
        cases h
        obtain ⟨u1, u2, h1, h2, h3⟩ := dcGo_app hl
        subst h3
        rw [h1]
        exact ⟨u :: u1, u2, rfl, h2, rfl⟩
      · cases h
theorem dcGo_step {f : PV → Option (List Key × PV)} {items : List PV} {us : List (List Key × PV)} {i : Nat} {v : PV} (h : dcGo f items = some us) (hi : items[i]? = some v) :
    ∃ u1 p u2, dcGo f (items.take i) = some u1 ∧ f v = some p ∧ dcGo f (items.take (i + 1)) = some (u1 ++ [p]) ∧ us = (u1 ++ [p]) ++ u2 := by
  have e : items.take (i + 1) = items.take i ++ [v] := by rw [List.take_add_one, hi]; rfl
  have h2 : dcGo f (items.take (i + 1) ++ items.drop (i + 1)) = some us := by rw [List.take_append_drop]; exact h
  obtain ⟨w1, w2, h3, _, h9⟩ := dcGo_app h2
  have h4 := h3
  rw [e] at h4
  obtain ⟨u1, u2, h5, h6, h7⟩ := dcGo_app h4
  simp only [dcGo] at h6
  split at h6
  · cases h6
  · rename_i p hf
    cases h6
    exact ⟨u1, p, w2, h5, hf, by rw [h3, h7], by rw [h9, h7]⟩
def entA (Z : Cls) (ps : List (List Key × PV)) : List (List Key × AV) := ps.map fun p => (p.1, absP Z p.2)
theorem entA_app {Z : Cls} {a b : List (List Key × PV)} : entA Z (a ++ b) = entA Z a ++ entA Z b := by simp [entA]
theorem entA_keys {Z : Cls} {a : List (List Key × PV)} : (entA Z a).map (·.1) = a.map (·.1) := by
  unfold entA
  rw [List.map_map]
  rfl
section
variable {X : Cx} {ρ : Rho} {m : Mem} {Z : Cls} {σ : St}
theorem dc_coreP {scope : Scope} {kx vx : Expr} {tgt : PV → Rho → Rho} {g : TG} {js : List Nat} {fr : Frm} {J : It} {H1 : Hp} {items : List PV} {us : List (List Key × PV)} {f : PV → Option (List Key × PV)} {Q : VK} {D : Addr}
    (hg : ∀ (v : PV) (x : V) (frx : Frm) (H2 : Hp) (R : St → Hp → Prop), (∃ o, f v = some o) → (absP Z v).p X.K (Ms frx m) H2 x → EnvV X.K (Ms frx m) H2 (wipeR ρ js) (wipe σ js) → (∀ σ2, wipe σ2 js = wipe σ js → EnvV X.K (Ms frx m) H2 (tgt v (wipeR ρ js)) σ2 → R σ2 H2) → g x (wipe σ js) H2 R)
    (o1 : Holds X.K fr ρ m σ H1) (it : IterX X.K J (Ms fr m) H1 m (absPs Z items)) (hD : H1 D = none) (hlen : items.length ≤ 1000) (hgo : dcGo f items = some us) (hnd : (us.map (·.1)).Nodup)
    (hk : ∀ (v : PV) (p : List Key × PV) X', BlkOf X scope X' → f v = some p → Gives X' kx (tgt v (wipeR ρ js)) m fun A => A = AL.tup (p.1.map keyA))
    (hv : ∀ (v : PV) (p : List Key × PV) X', BlkOf X scope X' → f v = some p → Gives X' vx (tgt v (wipeR ρ js)) m fun A => A = absP Z p.2)
    (fin : ∀ xs H', Ext (Ms fr m) H1 (Ms ((D, oD X.prog X.w D xs) :: fr) m) H' → Holds X.K ((D, oD X.prog X.w D xs) :: fr) ρ m σ H' → AllD X.K (Ms ((D, oD X.prog X.w D xs) :: fr) m) H' (entA Z us) xs → Q (.ref D) H') :
    ∃ W : Nat → Nat → Hp → Prop, (∃ n, W 0 n (upd H1 D (oD X.prog X.w D []))) ∧ ∀ i n H, W i n H →
      (J.stop i H ∧ Q (.ref D) H) ∨ (J.go i H ∧ ∃ Nx : Hp → Prop, (∀ H', Nx H' → ∃ n', n' < n ∧ W (i + 1) n' H') ∧ ∀ x H', J.yld i H x H' → g x (wipe σ js) H' fun σ2 H2 => wipe σ2 js = wipe σ js ∧ tYes σ2 H2 fun b H3 =>
        if b = true then teBlk X scope kx σ2 H3 fun y H4 => teBlk X scope vx σ2 H4 fun z H5 => ∃ xs ks b, y = .ref b ∧ SqT X.K H5 b (ks.map kV) ∧ H5 D = some (oD X.prog X.w D xs) ∧ KeysAt X.K H5 xs ∧ (xs.map (·.1)).Nodup ∧ ks ∉ xs.map (·.1) ∧ xs.length < sizeLine ∧ ∀ r, RelV z r → Nx (upd H5 D (oD X.prog X.w D (xs ++ [(ks, b, r)]))) else Nx H3) := by
  let S : Nat → Hp → Prop := fun i H => i ≤ items.length ∧ ∃ acc xs, dcGo f (items.take i) = some acc ∧ Ext (Ms fr m) H1 (Ms ((D, oD X.prog X.w D xs) :: fr) m) H ∧ MemV X.K ((D, oD X.prog X.w D xs) :: fr) m H ∧ EnvV X.K (Ms ((D, oD X.prog X.w D xs) :: fr) m) H ρ σ ∧ AllD X.K (Ms ((D, oD X.prog X.w D xs) :: fr) m) H (entA Z acc) xs ∧ xs.length ≤ i
  refine ⟨fun i n H => n = items.length - i ∧ S i H, ⟨_, rfl, Nat.zero_le _, [], [], rfl, .push hD, o1.mem.push hD, o1.env.st (.push hD), .nil, Nat.le_refl _⟩, ?_⟩
  rintro i n H ⟨rfl, hi, acc, xs, hacc, x, mv, ev, rv, hxl⟩
  obtain ⟨itg, its⟩ := it _ H x mv
  by_cases hlt : i < items.length
  · have hA : items[i]? = some items[i] := by simp [hlt]
    obtain ⟨u1, p, u2, h5, h6, h7, h8⟩ := dcGo_step hgo hA
    rw [h5] at hacc
    obtain rfl : u1 = acc := Option.some.inj hacc
    obtain ⟨ig, iy⟩ := itg i (by rw [absPs_len]; exact hlt)
    refine .inr ⟨ig, S (i + 1), fun H' hN => ⟨items.length - (i + 1), by omega, rfl, hN⟩, fun y H2 hy => ?_⟩
    obtain ⟨hh, hv0⟩ := iy y H2 hy
    obtain ⟨mv2, x2⟩ := ofYl mv hh
    have hv' := hv0 (absP Z items[i]) (by rw [absPs_map, List.getElem?_map, hA]; rfl)
    refine hg items[i] y _ H2 _ ⟨p, h6⟩ hv' ((ev.st x2).wipe js) fun σ2 hs e2 => ⟨hs, ?_⟩
    simp only [tYes, if_true]
    intro X2 hX2
    have o3 : Holds X2.K ((D, oD X.prog X.w D xs) :: fr) (tgt items[i] (wipeR ρ js)) m σ2 H2 := ⟨by rw [hX2.kt]; exact e2, by rw [hX2.kt]; exact mv2⟩
    refine hk items[i] p X2 hX2 h6 (fun A m' => A = AL.tup (p.1.map keyA) ∧ m' = m) (fun A hA => ⟨hA, rfl⟩) _ σ2 H2 o3 _ fun B m4 yv H4 ⟨hB, em⟩ x4 o4 r4 => ?_
    subst em hB
    intro X3 hX3
    have o4' : Holds X3.K ((D, oD X.prog X.w D xs) :: fr) (tgt items[i] (wipeR ρ js)) m4 σ2 H4 := by rw [hX3.kt, ← hX2.kt]; exact o4
    refine hv items[i] p X3 hX3 h6 (fun A m' => A = absP Z p.2 ∧ m' = m4) (fun A hA => ⟨hA, rfl⟩) _ σ2 H4 o4' _ fun B m5 zv H5 ⟨hB, em⟩ x5 o5 r5 => ?_
    subst em hB
    rw [hX3.kt] at o5 r5
    rw [hX2.kt] at r4
    obtain ⟨b, vs, rfl, hb, hkv⟩ := (AL.tup (p.1.map keyA)).st r4 x5
    rw [keyA_v hkv] at hb
    have hD5 : H5 D = some (oD X.prog X.w D xs) := o5.mem.frm _ _ List.mem_cons_self
    have rv5 := (rv.st x2).st (x4.trans x5)
    have hkeys := rv5.keys
    rw [entA_keys] at hkeys
    have hpre : ((u1 ++ [p]).map (·.1)).Nodup := by
      rw [h8, List.map_append] at hnd
      exact (List.nodup_append.mp hnd).1
    rw [List.map_append] at hpre
    have hp2 := List.nodup_append.mp hpre
    refine ⟨xs, p.1, b, rfl, hb.sq, hD5, rv5.sq, by rw [← hkeys]; exact hp2.1, fun z => ?_, Nat.lt_of_le_of_lt hxl (Nat.lt_of_lt_of_le (by omega : i < 1001) (by decide)), fun r rr => ?_⟩
    · rw [← hkeys] at z
      exact hp2.2.2 _ z _ List.mem_cons_self rfl
    · have x6 : Ext (Ms ((D, oD X.prog X.w D xs) :: fr) m5) H (Ms ((D, oD X.prog X.w D (xs ++ [(p.1, b, r)])) :: fr) m5) (upd H5 D (oD X.prog X.w D (xs ++ [(p.1, b, r)]))) := ((x2.trans x4).trans x5).trans .re
      refine ⟨hlt, u1 ++ [p], xs ++ [(p.1, b, r)], h7, x.trans x6, o5.mem.re, ev.st x6, ?_, by rw [List.length_append]; show xs.length + 1 ≤ _; omega⟩
      rw [entA_app]
      exact (rv.st x6).app (.cons ⟨rfl, hb.st .re, zv, rr, (absP Z p.2).st r5 .re⟩ .nil)
  · have ei : i = items.length := by omega
    subst ei
    rw [List.take_length, hgo] at hacc
    cases hacc
    refine .inl ⟨by have := its; rw [absPs_len] at this; exact this, ?_⟩
    exact fin xs H x ⟨ev, mv⟩ rv
end
theorem dcI_form {js : List Nat} {fk fv : Ev → Option CV} {ρ : Ev} {v : PV} {p : List Key × PV} (h : dcI js ρ fk fv v = some p) : ∃ ρ' k, bindE (wipeE ρ js) js v = some ρ' ∧ fk ρ' = some (.p k) ∧ keyP k = some p.1 ∧ fv ρ' = some (.p p.2) := by
  unfold dcI at h
  split at h
  · cases h
  · rename_i ρ' hb
    split at h
    · rename_i k hk
      split at h
      · cases h
      · rename_i ks hks
        split at h
        · rename_i u hu
          cases h
          exact ⟨ρ', k, hb, hk, hks, hu⟩
        · cases h
    · cases h
theorem keysL_abs {Z : Cls} : ∀ {l : List PV} {ks : List Key}, keysL l = some ks → absPs Z l = ks.map keyA
  | [], _, h => by cases h; rw [absPs]; rfl
  | v :: r, ks, h => by
    simp only [keysL] at h
    split at h
    · rename_i k l hk hl
      cases h
      rw [absPs, keysL_abs hl]
      cases v with
      | int i => simp only [key1, Option.some.injEq] at hk; subst hk; rw [absP]; rfl
      | str i => simp only [key1, Option.some.injEq] at hk; subst hk; rw [absP]; rfl
      | _ => simp [key1] at hk
    · cases h
theorem keyP_abs {Z : Cls} {k : PV} {ks : List Key} (h : keyP k = some ks) : absP Z k = AL.tup (ks.map keyA) := by
  unfold keyP at h
  split at h
  · rw [absP, keysL_abs h]
  · cases h
theorem zip_entA {Z : Cls} : ∀ (us : List (List Key × PV)), (us.map (·.1)).zip (absPs Z (us.map (·.2))) = entA Z us
  | [] => by simp [entA]
  | u :: us => by
    rw [List.map_cons, List.map_cons, absPs, List.zip_cons_cons, zip_entA us]
    rfl
section
variable {G : Gx} {N : List Str} {sc : Scope} {df : Bool} {pos tpos : Pos} {e f tg kx vx iter : Expr} {c a b : CE} {it : CI} {js : List Nat} {own : List (Str × Nat)} {scope : Scope}
theorem okE_dcm (zp : G.Z.P = G.P ∧ G.Z.w = G.w) (hT : TgtOk N (relS scope sc) true js tg own) (hC0 : CellOk scope own) (hok : blkC N sc scope own = true) (hns : ∀ env x, foldedSetIterable iter env x = pure x) (hi : OkI G N sc df it tg iter) (hK : OkE G N (relS scope sc) false a kx) (hV : OkE G N (relS scope sc) false b vx) :
    OkE G N sc df (.dcm js it a b) (.DictComp kx vx [⟨tg, iter, [], 0⟩] scope pos) := fun X at_ ρc ow v h mo qs ρ hl hr Kt q fr σ H o Q gQ => by
  simp only [evE] at h
  split at h
  · cases h
  · rename_i items hit
    have hlen : items.length ≤ 1000 := by
      unfold dcFin at h
      split at h
      · rename_i hs; exact of_decide_eq_true hs
      · cases h
    obtain ⟨us, hgo, hnd, rfl⟩ : ∃ us, dcGo (dcI js ρc (fun ρ' => evE G.T a ρ' ow) fun ρ' => evE G.T b ρ' ow) items = some us ∧ (us.map (·.1)).Nodup ∧ v = .p (.dct (us.map (·.1)) (us.map (·.2))) := by
      unfold dcFin at h
      split at h
      · split at h
        · rename_i us hu
          split at h
          · rename_i hn
            cases h
            exact ⟨us, hu, hn, rfl⟩
          · cases h
        · cases h
      · cases h
    have hu' : X.A.units + 64 < cLine := hu_at at_
    have ep : X.prog = G.Z.P := by rw [zp.1]; exact at_.prog
    have ew : X.w = G.Z.w := by rw [zp.2]; exact at_.wd
    obtain ⟨g, hPG, hown, hg⟩ := tgt_lc (ρ := ρ) (m := mo ++ memW G.Z qs ow) (σ := σ) (fv := fun v => (dcI js ρc (fun ρ' => evE G.T a ρ' ow) (fun ρ' => evE G.T b ρ' ow) v).map fun p => some p.2) hT hC0 at_ (fun v o ho => by
      obtain ⟨p, hp, _⟩ := Option.map_eq_some_iff.mp ho
      obtain ⟨ρ', k, hb, _⟩ := dcI_form hp
      exact bindE_form hb)
    subst hown
    refine le_E (pe_dcX (own := own) (g := g) (tt := tYes) (by omega) at_.calm (by rw [at_.nm]; exact at_.nd) wpI_pi (blkOk_by (by rw [at_.nm, at_.sce]; exact hok)) hPG (fun _ _ _ _ _ => pts_nil) teBlk_pe teBlk_pe (hns _)) ?_
    refine hi X at_ _ _ _ hit _ _ _ hl hr fr σ H o _ fun J H1 x1 o1 itx D hD => ?_
    refine dc_coreP (scope := scope) (kx := kx) (vx := vx) (fun v x frx H2 R ⟨p, hp⟩ => hg v x frx H2 R ⟨some p.2, by rw [hp]; rfl⟩) o1 itx hD hlen hgo hnd (fun v p X' hX hv => ?_) (fun v p X' hX hv => ?_) fun xs H' x2 o2 rv => ?_
    · obtain ⟨ρ', k, hb, hk, hks, hu⟩ := dcI_form hv
      intro Kt q
      exact hK X' (relS_at at_ hX) ρ' ow (.p k) hk mo qs (tgtA G.Z (own.map (·.2)) v (wipeR ρ (own.map (·.2)))) hl (RepE.bind hb (hr.wipe _)) Kt fun A hA => q A (by rw [hA.pE, keyP_abs hks])
    · obtain ⟨ρ', k, hb, hk, hks, hu⟩ := dcI_form hv
      intro Kt q
      exact hV X' (relS_at at_ hX) ρ' ow (.p p.2) hu mo qs (tgtA G.Z (own.map (·.2)) v (wipeR ρ (own.map (·.2)))) hl (RepE.bind hb (hr.wipe _)) Kt fun A hA => q A hA.pE
    · have hD' : H' D = some (oD X.prog X.w D xs) := o2.mem.frm _ _ List.mem_cons_self
      have hn' := (List.nodup_cons.mp o2.mem.nd).1
      have hkeys := rv.keys
      rw [entA_keys] at hkeys
      refine gQ (absP G.Z (.dct (us.map (·.1)) (us.map (·.2)))) _ _ H' (q _ (.p _)) (x1.trans (x2.trans .pop)) ⟨o2.env.st .pop, o2.mem.pop⟩ ?_
      rw [absP, zip_entA]
      rw [ep, ew] at hD'
      exact ⟨D, xs, rfl, hD', hn', by rw [← hkeys]; exact hnd, rv.st .pop⟩
theorem lookK_abs {Z : Cls} {k : List Key} {u : PV} : ∀ {ks : List (List Key)} {vs : List PV}, lookK k (ks.zip vs) = some u → lookK k (ks.zip (absPs Z vs)) = some (absP Z u)
  | [], vs, h => by simp [lookK] at h
  | _ :: _, [], h => by simp [lookK] at h
  | k' :: ks, v :: vs, h => by
    rw [absPs]
    simp only [List.zip_cons_cons, lookK] at h ⊢
    by_cases e : k = k'
    · rw [if_pos e] at h ⊢
      cases h
      rfl
    · rw [if_neg e] at h ⊢
      exact lookK_abs h
theorem okE_dix (zp : G.Z.P = G.P ∧ G.Z.w = G.w) (hp : plainIx f = true) (ha : OkE G N sc df a e) (hb : OkE G N sc df b f) : OkE G N sc df (.dix a b) (.Subscript e f pos) := fun X at_ ρc ow v h mo qs ρ hl hr Kt q => by
  simp only [evE] at h
  split at h
  · rename_i ks vs hx
    split at h
    · rename_i k hk
      split at h
      · cases h
      · rename_i kk hkk
        split at h
        · rename_i u hu
          cases h
          refine we_dix at_ ((ha X at_ _ _ _ hx _ _ _ hl hr).to fun A hA => (hb X at_ _ _ _ hk _ _ _ hl hr).to fun B hB => ⟨ks.zip (absPs G.Z vs), kk, absP G.Z u, by rw [hA.pE, absP, zp.1, zp.2], by rw [hB.pE, keyP_abs hkk], lookK_abs hu, q _ (.p _)⟩) (plainIx_eq hp)
        · cases h
    · cases h
  · cases h
end
end EV
/-! ENT3: zip of three lists. -/
namespace ENT
open PySem PySem.Spec L2 AL
open PyProof.Rows hiding St
/-- zip(a, b, c) of lists: triples -/
def ItZip3 (K : PySem.W.Frag) (a b c : Addr) (xs ys zs : List V) : It := ItN (fun H => SqL K H a xs ∧ SqL K H b ys ∧ SqL K H c zs) (min (min xs.length ys.length) zs.length) fun i l => ∃ x y z, xs[i]? = some x ∧ ys[i]? = some y ∧ zs[i]? = some z ∧ l = [x, y, z]
theorem turn_zip3 {P : Program} {w : World} {K : PySem.W.Frag} {elts : List Expr} {kk : Nat} {tp : Pos} {a b c i1 i2 i3 TI TO z : Addr} {xs ys zs : List V} (S : ZipSep3 z TI TO i1 i2 i3 [i1, a] [i2, b] [i3, c]) (ha : a ≠ i1) (hb : b ≠ i2) (hc : c ≠ i3) :
    Turn P w K (.Tuple elts kk tp) (ItZip3 K a b c xs ys zs) [z, TI, TO, i1, i2, i3] z fun i h => IsZip h z TI TO .none ∧ IsTupOf3 h TI (.ref i1) (.ref i2) (.ref i3) ∧ (∃ a1 a2 a3, IsTupOf3 h TO a1 a2 a3) ∧ ItAt false h i1 a i ∧ ItAt false h i2 b i ∧ ItAt false h i3 c i := by
  refine turn_new (ι := List Value × List Value × List Value) (ok := fun t => t.1.length = xs.length ∧ t.2.1.length = ys.length ∧ t.2.2.length = zs.length)
    (F := fun i h => IsZip h z TI TO .none ∧ IsTupOf3 h TI (.ref i1) (.ref i2) (.ref i3) ∧ (∃ a1 a2 a3, IsTupOf3 h TO a1 a2 a3) ∧ ItAt false h i1 a i ∧ ItAt false h i2 b i ∧ ItAt false h i3 c i)
    (G := fun t h => SeqK false h a t.1.toArray ∧ SeqK false h b t.2.1.toArray ∧ SeqK false h c t.2.2.toArray)
    (St := fun t i h => IsZip h z TI TO .none ∧ IsTupOf3 h TI (.ref i1) (.ref i2) (.ref i3) ∧ (∃ a1 a2 a3, IsTupOf3 h TO a1 a2 a3) ∧ (ItAt false h i1 a i ∧ SeqK false h a t.1.toArray) ∧ (ItAt false h i2 b i ∧ SeqK false h b t.2.1.toArray) ∧ (ItAt false h i3 c i ∧ SeqK false h c t.2.2.toArray))
    (Pt := fun t i vals => ∃ x y u, t.1.toArray[i]? = some x ∧ t.2.1.toArray[i]? = some y ∧ t.2.2.toArray[i]? = some u ∧ vals = #[x, y, u]) (fun t A hl hh => by
    have D1 := drawsK (P := P) (w := w) (A := A.in1) hh false i1 a ha t.1.toArray
    have D2 := drawsK (P := P) (w := w) (A := A.in1) hh false i2 b hb t.2.1.toArray
    have D3 := drawsK (P := P) (w := w) (A := A.in1) hh false i3 c hc t.2.2.toArray
    rw [show t.1.toArray.size = xs.length by simp [hl.1]] at D1
    rw [show t.2.1.toArray.size = ys.length by simp [hl.2.1]] at D2
    rw [show t.2.2.toArray.size = zs.length by simp [hl.2.2]] at D3
    exact WalksT.zipD3 S D1 D2 D3) (by simp) (fun b hb => by
      simp only [List.mem_cons, List.not_mem_nil, or_false] at hb ⊢
      rcases hb with h | h | h | h | h <;> simp [h]) (fun t i h x g => ⟨x.1, x.2.1, x.2.2.1, ⟨x.2.2.2.1, g.1⟩, ⟨x.2.2.2.2.1, g.2.1⟩, ⟨x.2.2.2.2.2, g.2.2⟩⟩) (fun t i h x => ⟨x.1, x.2.1, x.2.2.1, x.2.2.2.1.1, x.2.2.2.2.1.1, x.2.2.2.2.2.1⟩)
    (fun i h h' x k => ⟨k z (by simp) _ x.1, k TI (by simp) _ x.2.1, ?_, x.2.2.2.1.keep fun o q => k i1 (by simp) o q, x.2.2.2.2.1.keep fun o q => k i2 (by simp) o q, x.2.2.2.2.2.keep fun o q => k i3 (by simp) o q⟩) (fun i h x d hd => ?_)
    (fun A i s Q E x q => wpAny_pyIter_zip x.1 q) (fun X pins σ H s hK I hD => ?_)
  · obtain ⟨a1, a2, a3, q⟩ := x.2.2.1
    exact ⟨a1, a2, a3, k TO (by simp) _ q⟩
  · obtain ⟨x1, x2, ⟨a1, a2, a3, x3⟩, x4, x5, x6⟩ := x
    simp only [List.mem_cons, List.not_mem_nil, or_false] at hd
    rcases hd with rfl | rfl | rfl | rfl | rfl | rfl
    · exact ⟨_, x1, fun v y => nomatch y⟩
    · exact ⟨_, x2, fun v y => nomatch y⟩
    · exact ⟨_, x3, fun v y => nomatch y⟩
    · exact x4.obj
    · exact x5.obj
    · exact x6.obj
  · subst hK
    obtain ⟨h1, h2, h3⟩ := hD
    obtain ⟨its, rv, pl, _⟩ := I.list h1
    obtain ⟨its2, rv2, pl2, _⟩ := I.list h2
    obtain ⟨its3, rv3, pl3, _⟩ := I.list h3
    refine ⟨(its, its2, its3), ⟨rv.length.symm, rv2.length.symm, rv3.length.symm⟩, ⟨pl.isList, pl2.isList, pl3.isList⟩, fun i vals hlt pt => ?_⟩
    obtain ⟨x, y, u, hx, hy, hu, ev⟩ := pt
    have l1 : i < xs.length := by omega
    have l2 : i < ys.length := by omega
    have l3 : i < zs.length := by omega
    obtain ⟨x', hx', rx⟩ := rv.get (i := i) (x := xs[i]) (by simp [l1])
    obtain ⟨y', hy', ry⟩ := rv2.get (i := i) (x := ys[i]) (by simp [l2])
    obtain ⟨u', hu', ru⟩ := rv3.get (i := i) (x := zs[i]) (by simp [l3])
    have e1 : x' = x := by
      have q : its[i]? = some x := by simpa using hx
      rw [hx'] at q; exact Option.some.inj q
    have e2 : y' = y := by
      have q : its2[i]? = some y := by simpa using hy
      rw [hy'] at q; exact Option.some.inj q
    have e3 : u' = u := by
      have q : its3[i]? = some u := by simpa using hu
      rw [hu'] at q; exact Option.some.inj q
    subst e1 e2 e3 ev
    exact ⟨[xs[i], ys[i], zs[i]], .cons rx (.cons ry (.cons ru .nil)), ⟨_, _, _, by simp [l1], by simp [l2], by simp [l3], rfl⟩, by show 3 ≤ sizeLine; decide⟩
theorem sep3_apart {n a b c : Nat} (la : a < n) (lb : b < n) (lc : c < n) : ZipSep3 (n + 5) (n + 3) (n + 4) n (n + 1) (n + 2) [n, a] [n + 1, b] [n + 2, c] := by
  have nm : ∀ {x u v : Nat}, x ≠ u → x ≠ v → x ∉ [u, v] := fun h1 h2 z => by
    rcases List.mem_cons.mp z with z | z
    · exact h1 z
    · exact h2 (List.mem_singleton.mp z)
  constructor
  case mem1 => exact List.mem_cons_self
  case mem2 => exact List.mem_cons_self
  case mem3 => exact List.mem_cons_self
  all_goals first
    | (show (_ : Nat) ≠ _; omega)
    | (refine nm ?_ ?_ <;> (show (_ : Nat) ≠ _; omega))
section
variable {X : Cx}
def iZip3 (K : PySem.W.Frag) (ta : TA) : TI := fun σ H R => ta σ H fun vs H1 => ∃ a b c xs ys zs, vs = [.ref a, .ref b, .ref c] ∧ SqL K H1 a xs ∧ SqL K H1 b ys ∧ SqL K H1 c zs ∧ R (ItZip3 K a b c xs ys zs) H1
theorem pi_zip3 {e e2 e3 : Expr} {ta : TA} {p pos tpos : Pos} {elts : List Expr} {kk : Nat} (hg : Gl X "zip") (hm : X.mg "zip" = none) (ha : PA X [e, e2, e3] ta)
    (hs : starEach [e, e2, e3] X.env = (false, eval e X.env) :: starEach [e2, e3] X.env) (hpl : (backTo pos (starEach [e2, e3] X.env)).any (·.1) = false) :
    PI X (.Tuple elts kk tpos) (.Call (.Name "zip" p) [e, e2, e3] [] pos) (iZip3 X.K ta) := by
  refine ⟨fun pins s σ H R I h => Call_ (ld_blt I hg hm boot_zip (callWith_type1 (thn (ha.run pos pins s σ H _ I h) fun us s1 ⟨vs, H1, I1, r1, a, b, c, xs, ys, zs, ev, h1, h2, h3, q⟩ => ?_) hs hpl))⟩
  subst ev
  cases r1 with
  | cons r rr =>
    cases rr with
    | cons r' rr =>
      cases rr with
      | cons r'' rr =>
        cases rr
        cases r
        cases r'
        cases r''
        obtain ⟨its, rv, p1, _⟩ := I1.list h1
        obtain ⟨its2, rv2, p2, _⟩ := I1.list h2
        obtain ⟨its3, rv3, p3, _⟩ := I1.list h3
        have la : a < s1.heap.objs.size := p1.lt
        have lb : b < s1.heap.objs.size := p2.lt
        have lc : c < s1.heap.objs.size := p3.lt
        refine zip_begins3 (beginsK false a its.toArray) (beginsK false b its2.toArray) (beginsK false c its3.toArray) p1.isList p2.isList p3.isList fun h' hz hTI hTO g1 g2 g3 hsz hk => wpAny_pyIter_zip hz ?_
        have I2 : Inv X pins σ H1 { s1 with heap := h' } := I1.kept (t' := s1.toks) hk
        refine ⟨s1.heap.objs.size + 5, [s1.heap.objs.size + 5, s1.heap.objs.size + 3, s1.heap.objs.size + 4, s1.heap.objs.size, s1.heap.objs.size + 1, s1.heap.objs.size + 2], _, _, H1, rfl, I2,
          turn_zip3 (K := X.K) (a := a) (b := b) (c := c) (xs := xs) (ys := ys) (zs := zs) (sep3_apart la lb lc) (Nat.ne_of_lt la) (Nat.ne_of_lt (Nat.lt_add_right 1 lb)) (Nat.ne_of_lt (Nat.lt_add_right 2 lc)), ⟨hz, hTI, ⟨_, _, _, hTO⟩, itAt0 g1, itAt0 g2, itAt0 g3⟩, fun d hd => ?_, q⟩
        have hle : s1.heap.objs.size ≤ d := by
          simp only [List.mem_cons, List.not_mem_nil, or_false] at hd
          rcases hd with z | z | z | z | z | z <;> rw [z] <;> first | exact Nat.le_add_right _ _ | exact Nat.le_refl _
        exact I1.fpOk hle (I1.hok.fresh hle)
end
end ENT
namespace AL
open PySem PySem.Spec L2 ENT
open PyProof.Rows hiding St
def tripA : List AV → List AV → List AV → List AV
  | a :: as, b :: bs, c :: cs => tup [a, b, c] :: tripA as bs cs
  | _, _, _ => []
theorem tripA_len : ∀ As Bs Cs : List AV, (tripA As Bs Cs).length = min (min As.length Bs.length) Cs.length
  | a :: as, b :: bs, c :: cs => by rw [tripA, List.length_cons, tripA_len]; simp only [List.length_cons]; omega
  | [], _, _ => by simp [tripA]
  | _ :: _, [], _ => by simp [tripA]
  | _ :: _, _ :: _, [] => by simp [tripA]
theorem tripA_get : ∀ {As Bs Cs : List AV} {i : Nat} {a b c : AV}, As[i]? = some a → Bs[i]? = some b → Cs[i]? = some c → (tripA As Bs Cs)[i]? = some (tup [a, b, c])
  | a :: as, b :: bs, c :: cs, 0, _, _, _, h1, h2, h3 => by cases h1; cases h2; cases h3; rfl
  | a :: as, b :: bs, c :: cs, i + 1, _, _, _, h1, h2, h3 => tripA_get (As := as) (Bs := bs) (Cs := cs) (i := i) h1 h2 h3
  | [], _, _, i, _, _, _, h, _, _ => by simp at h
  | _ :: _, [], _, i, _, _, _, _, h, _ => by simp at h
  | _ :: _, _ :: _, [], i, _, _, _, _, _, h => by simp at h
section
variable {P : Program} {w : World} {K : PySem.W.Frag} {mg : Str → Option Value} {base : Heap} {N : List Str} {sc : Scope} {df : Bool} {k : Nat} {X : Cx} {ρ : Rho} {m : Mem} {pos : Pos} {Ki : List AV → Mem → Prop}
theorem trip_yld {As Bs Cs : List AV} {xs ys zs : List V} {M0 M : List Addr} {H0 H : Hp} {i : Nat} {T : Addr} {x y z : V} (ra : AllV K M0 H0 As xs) (rb : AllV K M0 H0 Bs ys) (rc : AllV K M0 H0 Cs zs) (xt : Ext M0 H0 M H) (hT : H T = none) (hM : ∀ b ∈ M, ∃ o, H b = some o) (h1 : xs[i]? = some x) (h2 : ys[i]? = some y) (h3 : zs[i]? = some z) :
    ∀ A, (tripA As Bs Cs)[i]? = some A → A.p K M (upd H T (.tup [x, y, z])) (.ref T) := by
  intro A hA
  obtain ⟨Ax, hx, px⟩ := ra.getV h1
  obtain ⟨By, hy, py⟩ := rb.getV h2
  obtain ⟨Cz, hz, pz⟩ := rc.getV h3
  rw [tripA_get hx hy hz] at hA; cases hA
  have nT : T ∉ M := fun z => by
    obtain ⟨o, q⟩ := hM T z
    rw [hT] at q; cases q
  have xt2 : Ext M0 H0 M (upd H T (.tup [x, y, z])) := xt.trans (.alloc hT)
  exact ⟨T, [x, y, z], rfl, .inl ⟨.inl upd_same, nT⟩, .cons (Ax.st px xt2) (.cons (By.st py xt2) (.cons (Cz.st pz xt2) .nil))⟩
theorem wi_zip3 (a : At P w K mg base N sc df k X) {p tpos : Pos} {c d e : Expr} {elts : List Expr} {kk : Nat} (hg : sc.names.lookup ("zip" : Str) = some .globalImplicit) (hm : mg ("zip" : Str) = none) (h : WE X c ρ m fun A m1 => WE X d ρ m1 fun B m2 => WE X e ρ m2 fun C m3 => ∃ As Bs Cs, A = lst As ∧ B = lst Bs ∧ C = lst Cs ∧ Ki (tripA As Bs Cs) m3)
    (hs : starEach [c, d, e] X.env = [(false, eval c X.env), (false, eval d X.env), (false, eval e X.env)]) (hs2 : starEach [d, e] X.env = [(false, eval d X.env), (false, eval e X.env)]) (hs3 : starEach [e] X.env = [(false, eval e X.env)]) (hpl : (backTo pos (starEach [d, e] X.env)).any (·.1) = false) :
    WI X (.Tuple elts kk tpos) (.Call (.Name "zip" p) [c, d, e] [] pos) ρ m Ki := by
  intro fr σ H o R g
  refine le_I (pi_zip3 (gl_of a hg) (by rw [a.mt]; exact hm) (pa_cons wpE_pe (pa_cons wpE_pe (pa_cons wpE_pe pa_nil (by rw [hs3]; rfl)) (by rw [hs2, hs3])) (by rw [hs, hs2])) (by rw [hs, hs2]) hpl) ?_
  refine h.to o fun A m1 v H1 h1 x1 o1 r1 => h1.to o1 fun B m2 u H2 h2 x2 o2 r2 => h2.to o2 fun C m3 y H3 ⟨As, Bs, Cs, ea, eb, ec, q⟩ x3 o3 r3 => ?_
  have r1' := A.st r1 (x2.trans x3)
  have r2' := B.st r2 x3
  subst ea eb ec
  obtain ⟨p1, xs, rfl, t1, ra⟩ := r1'
  obtain ⟨p2, ys, rfl, t2, rb⟩ := r2'
  obtain ⟨p3, zs, rfl, t3, rc⟩ := r3
  have hl : (tripA As Bs Cs).length = min (min xs.length ys.length) zs.length := by rw [tripA_len, ra.length, rb.length, rc.length]
  refine ⟨p1, p2, p3, xs, ys, zs, rfl, t1.sq, t2.sq, t3.sq, g _ m3 _ H3 q ((x1.trans x2).trans x3) o3 ⟨fun i M H4 hi xt => ⟨⟨(t1.st xt).sq, (t2.st xt).sq, (t3.st xt).sq⟩, by rw [hl] at hi; exact hi⟩, fun M H4 xt => ⟨⟨(t1.st xt).sq, (t2.st xt).sq, (t3.st xt).sq⟩, hl⟩, fun i M H4 y H5 hi xt hM hy => ?_⟩⟩
  obtain ⟨T, l, rfl, hT, rfl, x', y', z', hx, hy', hz, rfl⟩ := hy
  exact ⟨.inr ⟨T, _, hT, rfl⟩, trip_yld ra rb rc xt hT hM hx hy' hz⟩
end
end AL
/-! EVG: comprehensions with two fors. -/
namespace EV
open PySem PySem.Spec L2 AL
open PyProof.Rows hiding St
theorem lc2Go_app {f : PV → Option (List PV)} : ∀ {l r us : List PV}, lc2Go f (l ++ r) = some us → ∃ u1 u2, lc2Go f l = some u1 ∧ lc2Go f r = some u2 ∧ us = u1 ++ u2
  | [], r, us, h => ⟨[], us, rfl, h, rfl⟩
  | v :: l, r, us, h => by
    rw [List.cons_append] at h
    simp only [lc2Go] at h ⊢
    split at h
    · cases h
    · rename_i a ha
      split at h
      · cases h
      · rename_i t ht
        cases h
        obtain ⟨u1, u2, h1, h2, h3⟩ := lc2Go_app ht
        rw [h1]
        exact ⟨a ++ u1, u2, rfl, h2, by rw [h3, List.append_assoc]⟩
theorem lc2Go_step {f : PV → Option (List PV)} {items us : List PV} {i : Nat} {v : PV} (h : lc2Go f items = some us) (hi : items[i]? = some v) :
    ∃ u1 l, lc2Go f (items.take i) = some u1 ∧ f v = some l ∧ lc2Go f (items.take (i + 1)) = some (u1 ++ l) := by
  have e : items.take (i + 1) = items.take i ++ [v] := by rw [List.take_add_one, hi]; rfl
  have h2 : lc2Go f (items.take (i + 1) ++ items.drop (i + 1)) = some us := by rw [List.take_append_drop]; exact h
  obtain ⟨w1, w2, h3, _, _⟩ := lc2Go_app h2
  have h4 := h3
  rw [e] at h4
  obtain ⟨u1, u2, h5, h6, h7⟩ := lc2Go_app h4
  simp only [lc2Go] at h6
  split at h6
  · cases h6
  · rename_i a ha
    cases h6
    exact ⟨u1, a, h5, ha, by rw [h3, h7, List.append_nil]⟩
/-- the shape that a target takes -/
def FormJ (js : List Nat) (v : PV) : Prop := (∃ j, js = [j]) ∨ ((∀ j, js ≠ [j]) ∧ ∃ vs, v = .tup vs ∧ js.length = vs.length)
theorem wipe_setVs2 {js vs : List Nat} {xs : List V} {σ : St} (h : ∀ j ∈ js, j ∈ vs) : wipe (setVs σ js xs) vs = wipe σ vs :=
  wipe_eq vs _ _ (setVs_len ..) fun i hi => setVs_out js xs σ i fun z => hi (h i z)
theorem wipe_get : ∀ {js : List Nat} {σ : St} {i : Nat}, i ∉ js → (wipe σ js)[i]? = σ[i]?
  | [], _, _, _ => rfl
  | j :: js, σ, i, hi => by
    simp only [wipe]
    rw [List.getElem?_set_ne (fun e => hi (by rw [e]; exact List.mem_cons_self)), wipe_get (fun z => hi (List.mem_cons_of_mem _ z))]
theorem wipe_wipe {js vs : List Nat} {σ : St} (h : ∀ j ∈ js, j ∈ vs) : wipe (wipe σ js) vs = wipe σ vs :=
  wipe_eq vs _ _ (wipe_length ..) fun i hi => wipe_get fun z => hi (h i z)
def tiBlk (X : Cx) (scope : Scope) (tg iter : Expr) : TI := fun σ H R => ∀ X', BlkOf X scope X' → wpI X' tg iter σ H R
theorem tiBlk_pi {X : Cx} {scope : Scope} {tg iter : Expr} (s : Shared) (H : Hp) (C : Addr) (cl : List (Str × Addr)) (fp : List Addr) : PI (X.blk s H scope (compEnvC scope cl C X.env) fp) tg iter (tiBlk X scope tg iter) :=
  ⟨fun pins s' σ H' R I h => h _ ⟨s, H, cl, C, fp, rfl⟩ pins s' I⟩
section
variable {G : Gx} {N : List Str} {sc scope : Scope} {df : Bool} {js : List Nat} {own : List (Str × Nat)} {tg : Expr}
theorem tgt_gen (hT : TgtOk N (relS scope sc) true js tg own) (hC : CellOk scope own) {X : Cx} (at_ : G.At N sc df X) {m : Mem} {vs : List Nat} (hv : ∀ j ∈ js, j ∈ vs) :
    ∃ g : TG, (∀ (s : Shared) (H : Hp) (C : Addr) (cl : List (Str × Addr)) (fp : List Addr), PG (X.blk s H scope (compEnvC scope cl C X.env) fp) tg g) ∧ own.map (·.2) = js ∧
      ∀ (v : PV) (x : V) (frx : Frm) (ρ' : Rho) (σ' : St) (H2 : Hp) (R : St → Hp → Prop), FormJ js v → (absP G.Z v).p X.K (Ms frx m) H2 x → EnvV X.K (Ms frx m) H2 ρ' σ' → (∀ σ2, wipe σ2 vs = wipe σ' vs → EnvV X.K (Ms frx m) H2 (tgtA G.Z js v ρ') σ2 → R σ2 H2) → g x σ' H2 R := by
  cases hT with
  | one j nm p h hl =>
    refine ⟨gName j, fun s H C cl fp => pgn_blk at_ j h hl (hC _ List.mem_cons_self), rfl, fun v x frx ρ' σ' H2 R _ hx ev k => k (σ'.set j (some x)) (wipe_setVs2 (js := [j]) (xs := [x]) hv) (ev.set hx j)⟩
  | tup jl kk tp hne h =>
    refine ⟨gTup X.K jl.length (jl.foldr (fun j t => gCons (gName j.1) t) gNil), fun s H C cl fp => ?_, by rw [List.map_map]; rfl, fun v x frx ρ' σ' H2 R ho hx ev k => ?_⟩
    · exact pg_tup (blk_at at_).calm (pgs_blk at_ jl h fun z hz => hC _ (List.mem_map.mpr ⟨z, hz, rfl⟩)) (assignEach_names _ jl).1 (assignEach_names _ jl).2
    · rcases ho with ⟨j, ej⟩ | ⟨_, ws, rfl, hlen⟩
      · exact absurd ej (hne j)
      · rw [absP] at hx
        obtain ⟨p, xs, rfl, hp, hr⟩ := hx
        have hl := hr.length
        rw [absPs_len] at hl
        rw [List.length_map] at hlen
        refine ⟨p, xs, rfl, hp.sq, by omega, ?_⟩
        have q := names_run2 (jl.map (·.1)) (absPs G.Z ws) xs ρ' σ' H2 R (by rw [List.length_map, absPs_len]; exact hlen) ev hr fun e2 => k _ (wipe_setVs2 hv) (by
          unfold tgtA
          split
          · rename_i j ej; exact absurd ej (hne j)
          · exact e2)
        rw [List.foldr_map] at q
        exact q
end
section
variable {X : Cx} {ρ : Rho} {m : Mem} {Z : Cls} {σ : St}
theorem lc2_coreP {scope : Scope} {elt tg1 iter1 : Expr} {g g1 : TG} {js1 js2 vs : List Nat} {fr : Frm} {J : It} {H1 : Hp} {items us : List PV} {f : PV → Option (List PV)} {Q : VK} {D : Addr}
    (hg : ∀ (v : PV) (x : V) (frx : Frm) (ρ' : Rho) (σ' : St) (H2 : Hp) (R : St → Hp → Prop), FormJ js1 v → (absP Z v).p X.K (Ms frx m) H2 x → EnvV X.K (Ms frx m) H2 ρ' σ' → (∀ σ2, wipe σ2 vs = wipe σ' vs → EnvV X.K (Ms frx m) H2 (tgtA Z js1 v ρ') σ2 → R σ2 H2) → g x σ' H2 R)
    (hg1 : ∀ (v : PV) (x : V) (frx : Frm) (ρ' : Rho) (σ' : St) (H2 : Hp) (R : St → Hp → Prop), FormJ js2 v → (absP Z v).p X.K (Ms frx m) H2 x → EnvV X.K (Ms frx m) H2 ρ' σ' → (∀ σ2, wipe σ2 js2 = wipe σ' js2 → EnvV X.K (Ms frx m) H2 (tgtA Z js2 v ρ') σ2 → R σ2 H2) → g1 x σ' H2 R)
    (o1 : Holds X.K fr ρ m σ H1) (it : IterX X.K J (Ms fr m) H1 m (absPs Z items)) (hD : H1 D = none) (hlen : items.length ≤ 1000) (hgo : lc2Go f items = some us)
    (hin : ∀ v l, f v = some l → FormJ js1 v ∧ ∃ items2 f2, items2.length ≤ 1000 ∧ lcGo f2 items2 = some l ∧ (∀ v2 o, f2 v2 = some o → FormJ js2 v2 ∧ ∃ u, o = some u) ∧
      (∀ (frx : Frm) (σ2 : St) (H2 : Hp) (R : It → Hp → Prop), Holds X.K frx (tgtA Z js1 v (wipeR ρ vs)) m σ2 H2 → (∀ J1 H4, Ext (Ms frx m) H2 (Ms frx m) H4 → Holds X.K frx (tgtA Z js1 v (wipeR ρ vs)) m σ2 H4 → IterX X.K J1 (Ms frx m) H4 m (absPs Z items2) → R J1 H4) → tiBlk X scope tg1 iter1 σ2 H2 R) ∧
      ∀ (v2 u : PV) X', BlkOf X scope X' → f2 v2 = some (some u) → Gives X' elt (tgtA Z js2 v2 (wipeR (tgtA Z js1 v (wipeR ρ vs)) js2)) m fun A => A = absP Z u)
    (fin : ∀ xs H', Ext (Ms fr m) H1 (Ms ((D, .lst xs) :: fr) m) H' → Holds X.K ((D, .lst xs) :: fr) ρ m σ H' → AllV X.K (Ms ((D, .lst xs) :: fr) m) H' (absPs Z us) xs → Q (.ref D) H') :
    ∃ W : Nat → Nat → Hp → Prop, (∃ n, W 0 n (upd H1 D (.lst []))) ∧ ∀ i n H, W i n H →
      (J.stop i H ∧ Q (.ref D) H) ∨ (J.go i H ∧ ∃ Nx : Hp → Prop, (∀ H', Nx H' → ∃ n', n' < n ∧ W (i + 1) n' H') ∧ ∀ x H', J.yld i H x H' → g x (wipe σ vs) H' fun σ2 H2 => wipe σ2 vs = wipe σ vs ∧ tYes σ2 H2 fun b H3 =>
        if b = true then tiBlk X scope tg1 iter1 σ2 H3 fun J1 H4 => ∃ W1 : Nat → Nat → Hp → Prop, (∃ m, W1 0 m H4) ∧ ∀ j k H, W1 j k H →
          (J1.stop j H ∧ Nx H) ∨ (J1.go j H ∧ ∃ Nx1 : Hp → Prop, (∀ H', Nx1 H' → ∃ k', k' < k ∧ W1 (j + 1) k' H') ∧ ∀ x H', J1.yld j H x H' → g1 x (wipe σ2 js2) H' fun σ3 H5 => wipe σ3 js2 = wipe σ2 js2 ∧ tYes σ3 H5 fun b H6 =>
            if b = true then teBlk X scope elt σ3 H6 fun y H7 => ∃ acc, H7 D = some (.lst acc) ∧ acc.length < sizeLine ∧ Nx1 (upd H7 D (.lst (acc ++ [y]))) else Nx1 H6)
        else Nx H3) := by
  let S : Nat → Hp → Prop := fun i H => i ≤ items.length ∧ ∃ acc xs, lc2Go f (items.take i) = some acc ∧ Ext (Ms fr m) H1 (Ms ((D, .lst xs) :: fr) m) H ∧ MemV X.K ((D, .lst xs) :: fr) m H ∧ EnvV X.K (Ms ((D, .lst xs) :: fr) m) H ρ σ ∧ AllV X.K (Ms ((D, .lst xs) :: fr) m) H (absPs Z acc) xs ∧ xs.length ≤ i * 1000
  refine ⟨fun i n H => n = items.length - i ∧ S i H, ⟨_, rfl, Nat.zero_le _, [], [], rfl, .push hD, o1.mem.push hD, o1.env.st (.push hD), by rw [absPs]; exact .nil, Nat.zero_le _⟩, ?_⟩
  rintro i n H ⟨rfl, hi, acc, xs, hacc, x, mv, ev, rv, hxl⟩
  obtain ⟨itg, its⟩ := it _ H x mv
  by_cases hlt : i < items.length
  · have hA : items[i]? = some items[i] := by simp [hlt]
    obtain ⟨u1, l, h5, h6, h7⟩ := lc2Go_step hgo hA
    rw [h5] at hacc
    obtain rfl : u1 = acc := Option.some.inj hacc
    obtain ⟨hform, items2, f2, hl2, hgo2, hf2, hi2, he2⟩ := hin _ _ h6
    obtain ⟨ig, iy⟩ := itg i (by rw [absPs_len]; exact hlt)
    refine .inr ⟨ig, S (i + 1), fun H' hN => ⟨items.length - (i + 1), by omega, rfl, hN⟩, fun y H2 hy => ?_⟩
    obtain ⟨hh, hv⟩ := iy y H2 hy
    obtain ⟨mv2, x2⟩ := ofYl mv hh
    have hv' := hv (absP Z items[i]) (by rw [absPs_map, List.getElem?_map, hA]; rfl)
    refine hg items[i] y _ _ _ H2 _ hform hv' ((ev.st x2).wipe vs) fun σ2 hs e2 => ⟨by rw [hs, wipe_wipe fun _ z => z], ?_⟩
    dsimp only [tYes]
    rw [if_pos rfl]
    refine hi2 _ σ2 H2 _ ⟨e2, mv2⟩ fun J1 H4 x4 o4 it1 => ?_
    let S1 : Nat → Hp → Prop := fun j H => j ≤ items2.length ∧ ∃ acc2 xs2, lcGo f2 (items2.take j) = some acc2 ∧ Ext (Ms ((D, .lst xs) :: fr) m) H4 (Ms ((D, .lst xs2) :: fr) m) H ∧ MemV X.K ((D, .lst xs2) :: fr) m H ∧ AllV X.K (Ms ((D, .lst xs2) :: fr) m) H (absPs Z (u1 ++ acc2)) xs2 ∧ EnvV X.K (Ms ((D, .lst xs2) :: fr) m) H (tgtA Z js1 items[i] (wipeR ρ vs)) σ2 ∧ xs2.length ≤ xs.length + j
    refine ⟨fun j k H => k = items2.length - j ∧ S1 j H, ⟨_, rfl, Nat.zero_le _, [], xs, rfl, .refl _ _, o4.mem, by rw [List.append_nil]; exact rv.st (x2.trans x4), o4.env, Nat.le_refl _⟩, ?_⟩
    rintro j k H5 ⟨rfl, hj, acc2, xs2, hacc2, y5, mv5, rv5, ev5, hxl2⟩
    obtain ⟨itg1, its1⟩ := it1 _ H5 y5 mv5
    by_cases hlt2 : j < items2.length
    · have hA2 : items2[j]? = some items2[j] := by simp [hlt2]
      obtain ⟨w1, o, k5, k6, k7⟩ := lcGo_step hgo2 hA2
      rw [k5] at hacc2
      obtain rfl : w1 = acc2 := Option.some.inj hacc2
      obtain ⟨hform2, u, rfl⟩ := hf2 _ _ k6
      obtain ⟨ig1, iy1⟩ := itg1 j (by rw [absPs_len]; exact hlt2)
      refine .inr ⟨ig1, S1 (j + 1), fun H' hN => ⟨items2.length - (j + 1), by omega, rfl, hN⟩, fun y1 H6 hy1 => ?_⟩
      obtain ⟨hh1, hv1⟩ := iy1 y1 H6 hy1
      obtain ⟨mv6, x6⟩ := ofYl mv5 hh1
      have hv1' := hv1 (absP Z items2[j]) (by rw [absPs_map, List.getElem?_map, hA2]; rfl)
      refine hg1 items2[j] y1 _ _ _ H6 _ hform2 hv1' ((ev5.st x6).wipe js2) fun σ3 hs3 e3 => ⟨by rw [hs3, wipe_wipe fun _ z => z], ?_⟩
      rw [if_pos rfl]
      intro X2 hX2
      have o3' : Holds X2.K ((D, .lst xs2) :: fr) (tgtA Z js2 items2[j] (wipeR (tgtA Z js1 items[i] (wipeR ρ vs)) js2)) m σ3 H6 := ⟨by rw [hX2.kt]; exact e3, by rw [hX2.kt]; exact mv6⟩
      refine he2 items2[j] u X2 hX2 k6 (fun A m' => A = absP Z u ∧ m' = m) (fun A hA => ⟨hA, rfl⟩) _ σ3 H6 o3' _ fun B m4 yv H7 ⟨hB, em⟩ x7 o7 r7 => ?_
      subst em hB
      rw [hX2.kt] at o7 r7
      have hD7 : H7 D = some (.lst xs2) := o7.mem.frm _ _ List.mem_cons_self
      refine ⟨xs2, hD7, Nat.lt_of_le_of_lt (m := 1000 * 1000 + 1000) (by have : i * 1000 ≤ 1000 * 1000 := Nat.mul_le_mul_right _ (by omega); omega) (by decide), ?_⟩
      have x8 : Ext (Ms ((D, .lst xs2) :: fr) m4) H5 (Ms ((D, .lst (xs2 ++ [yv])) :: fr) m4) (upd H7 D (.lst (xs2 ++ [yv]))) := (x6.trans x7).trans .re
      refine ⟨hlt2, w1 ++ [u], xs2 ++ [yv], by rw [k7]; rfl, y5.trans x8, o7.mem.re, ?_, ev5.st x8, by rw [List.length_append]; show xs2.length + 1 ≤ _; omega⟩
      rw [← List.append_assoc, absPs_app, absPs, absPs]
      exact (rv5.st x8).append (.cons ((absP Z u).st r7 .re) .nil)
    · have ej : j = items2.length := by omega
      subst ej
      rw [List.take_length, hgo2] at hacc2
      cases hacc2
      have x9 := (x2.trans x4).trans y5
      refine .inl ⟨by have := its1; rw [absPs_len] at this; exact this, hlt, _, xs2, h7, x.trans x9, mv5, ev.st x9, rv5, by omega⟩
  · have ei : i = items.length := by omega
    subst ei
    rw [List.take_length, hgo] at hacc
    cases hacc
    refine .inl ⟨by have := its; rw [absPs_len] at this; exact this, ?_⟩
    exact fin xs H x ⟨ev, mv⟩ rv
end
section
variable {G : Gx} {N : List Str} {sc scope : Scope} {df : Bool} {pos : Pos} {tg tg1 elt iter iter1 : Expr} {a : CE} {it it2 : CI} {js1 js2 : List Nat} {own1 own2 : List (Str × Nat)}
theorem okE_lc2 (hT : TgtOk N (relS scope sc) true js1 tg own1) (hT1 : TgtOk N (relS scope sc) true js2 tg1 own2) (hC0 : CellOk scope (own1 ++ own2)) (hok : blkC N sc scope (own1 ++ own2) = true) (hns : ∀ env x, foldedSetIterable iter env x = pure x) (hns1 : ∀ env x, foldedSetIterable iter1 env x = pure x)
    (hi : OkI G N sc df it tg iter) (hi1 : OkI G N (relS scope sc) false it2 tg1 iter1) (hE : OkE G N (relS scope sc) false a elt) : OkE G N sc df (.lc2 js1 js2 it it2 a) (.ListComp elt [⟨tg, iter, [], 0⟩, ⟨tg1, iter1, [], 0⟩] scope pos) := fun X at_ ρc ow v h mo qs ρ hl hr Kt q => by
  simp only [evE] at h
  split at h
  · cases h
  · rename_i items hit
    unfold lc2Fin at h
    split at h
    · rename_i hs
      split at h
      · rename_i us hu
        cases h
        have hlen : items.length ≤ 1000 := of_decide_eq_true hs
        obtain ⟨g, hPG, hown, hg⟩ := tgt_gen (m := mo ++ memW G.Z qs ow) (vs := js1 ++ js2) hT (fun p hp => hC0 p (List.mem_append_left _ hp)) at_ fun _ z => List.mem_append_left _ z
        obtain ⟨g1, hPG1, hown1, hg1⟩ := tgt_gen (m := mo ++ memW G.Z qs ow) (vs := js2) hT1 (fun p hp => hC0 p (List.mem_append_right _ hp)) at_ fun _ z => z
        have hvs : (own1 ++ own2).map (·.2) = js1 ++ js2 := by rw [List.map_append, hown, hown1]
        refine WN.we fun fr σ H o Q gQ => ?_
        refine le_E (pe_lc2 (own := own1 ++ own2) (vs1 := js2) (g := g) (g1 := g1) (tt := tYes) (tt1 := tYes) at_.calm (by rw [at_.nm]; exact at_.nd) wpI_pi (blkOk_by (by rw [at_.nm, at_.sce]; exact hok)) (fun i z => by rw [hvs]; exact List.mem_append_right _ z)
          hPG (fun _ _ _ _ _ => pts_nil) tiBlk_pi hPG1 (fun _ _ _ _ _ => pts_nil) teBlk_pe (hns _) hns1) ?_
        rw [hvs]
        refine hi X at_ _ _ _ hit _ _ _ hl hr fr σ H o _ fun J H1 x1 o1 itx D hD => ?_
        refine lc2_coreP (scope := scope) (elt := elt) (f := lc2I js1 js2 ρc (fun ρ' => evI G.T it2 ρ' ow) fun ρ' => evE G.T a ρ' ow) hg hg1 o1 itx hD hlen hu (fun v l hf => ?_) fun xs H' x2 o2 rv => gQ _ _ D xs H' (q _ (by rw [← absP]; exact .p _)) (x1.trans x2) o2 rv
        unfold lc2I at hf
        split at hf
        · cases hf
        · rename_i ρ1 hb
          split at hf
          · cases hf
          · rename_i items2 hfi
            split at hf
            · rename_i hs2
              refine ⟨bindE_form hb, items2, _, of_decide_eq_true hs2, hf, fun v2 o ho => ?_, fun frx σ2 H2 R o2 k X' hX => ?_, fun v2 u X' hX hv2 => ?_⟩
              · obtain ⟨ρ', u, hb2, _, rfl⟩ := lcI_form ho
                exact ⟨bindE_form hb2, u, rfl⟩
              · refine hi1 X' (relS_at at_ hX) ρ1 ow items2 hfi mo qs _ hl (RepE.bind hb (hr.wipe _)) frx σ2 H2 ⟨by rw [hX.kt]; exact o2.env, by rw [hX.kt]; exact o2.mem⟩ R fun J1 H4 x4 o4 it4 => ?_
                rw [hX.kt] at o4 it4
                exact k J1 H4 x4 o4 it4
              · obtain ⟨ρ', u', hb2, hu2, e⟩ := lcI_form hv2
                cases e
                intro Kt q
                exact hE X' (relS_at at_ hX) ρ' ow (.p u) hu2 mo qs _ hl (RepE.bind hb2 ((RepE.bind hb (hr.wipe _)).wipe js2)) Kt fun A hA => q A hA.pE
            · cases hf
      · cases h
    · cases h
end
/-! ### zip of three -/
theorem absPs_trip {Z : Cls} : ∀ {l r t : List PV}, absPs Z (tripP l r t) = tripA (absPs Z l) (absPs Z r) (absPs Z t)
  | [], r, t => by simp [tripP, absPs, tripA]
  | a :: l, [], t => by simp [tripP, absPs, tripA]
  | a :: l, b :: r, [] => by simp [tripP, absPs, tripA]
  | a :: l, b :: r, c :: t => by
    rw [tripP, absPs, absPs, absPs, absPs, absPs_trip, tripA, absP, absPs, absPs, absPs, absPs]
section
variable {G : Gx} {N : List Str} {sc : Scope} {df : Bool} {pos tpos p : Pos} {e f g : Expr} {a b c : CE} (B : Blt G.mg)
include B in
theorem wi_zip3E {elts : List Expr} {kk : Nat} (hg : sc.names.lookup ("zip" : Str) = some .globalImplicit) (hs : notStar e = true) (ht : notStar f = true) (hu : notStar g = true) (ha : OkE G N sc df a e) (hb : OkE G N sc df b f) (hc : OkE G N sc df c g) {X : Cx} (at_ : G.At N sc df X) {ρc : Ev} {ow : Own} {items : List PV} (h : evI G.T (.zip3 a b c) ρc ow = some items) {mo : Mem} {qs : List Addr} {ρ : Rho} (hl : qs.length = ow.length) (hr : RepE G.Z mo qs ρc ρ) :
    WI X (.Tuple elts kk tpos) (.Call (.Name "zip" p) [e, f, g] [] pos) ρ (mo ++ memW G.Z qs ow) fun Is m' => Is = absPs G.Z items ∧ m' = mo ++ memW G.Z qs ow := by
  simp only [evI] at h
  split at h
  · rename_i x hx
    split at h
    · rename_i y hy
      split at h
      · rename_i z hz
        cases h
        exact wi_zip3 at_ hg B.zip ((ha X at_ _ _ _ hx _ _ _ hl hr).to fun A hA => (hb X at_ _ _ _ hy _ _ _ hl hr).to fun C hC => (hc X at_ _ _ _ hz _ _ _ hl hr).to fun D hD => ⟨_, _, _, isL hA, isL hC, isL hD, absPs_trip.symm, rfl⟩)
          (by rw [star1 hs, star1 ht, star1 hu]; rfl) (by rw [star1 ht, star1 hu]; rfl) (star1 hu _ _) (star_none (by simp [ht, hu]) _ _)
      · cases h
    · cases h
  · cases h
end
end EV
/-! EVK: calls with all arguments by their names. -/
namespace AL
open PySem PySem.Spec L2
open PyProof.Rows hiding St
section
variable {X : Cx} {k : Nat} {f : Addr} {fd : FuncData} {ps ks : List Str} {sp : Sp} {x : Str} {p pos : Pos} {kws : List Keyword} {tk : TA} {g : List Value → List Value → List Value} {gV : List V → List V → List V}
theorem pe_callN {E : XK} (F : FnOk X.prog X.w X.K X.mg X.base CX0 k f fd ps sp) (hr : Room k X.A) (hg : Gl X x) (hm : X.mg x = some (.ref f)) (hk : PySem.W.keepIn X.K (.ref f) = true) (hb : KBinds X.K fd ps ks g gV) (hx : Passes CX0 X E) (hkw : PK X kws tk)
    (hall : (backToKw pos (keywordEach kws X.env)).all (·.1.isSome) = true) (hks : (backToKw pos (keywordEach kws X.env)).filterMap (·.1) = ks) (hdb : (x == ("__debug__" : Str)) = false)
    (hpl : ((backTo pos (starEach [] X.env)).any (·.1) || (backToKw pos (keywordEach kws X.env)).any (·.1.isNone)) = false) : PE X (.Call (.Name x p) [] kws pos) (fun σ H Q => tk σ H fun zs H2 => sp (gV [] zs) H2 Q E) where
  run := fun pins s σ H Q I h => by
    refine wpAny_Call_Name_kw (ld_glob I hg hm (PySem.W.callWith_KW0 (h₀ := X.base) I.ok.mod.kin hk hall ?_ hpl) hdb)
    refine thn (hkw.run pos pins s σ H _ I h) fun ws s2 ⟨zs, H2, I2, rz, q⟩ => ⟨I2.kIn, ?_⟩
    rw [hks]
    exact run_fnk (us := []) (vs := []) F hr hb hx I2 .nil rz q
/-- the values of keywords, in their order -/
def tKws (X : Cx) : List Keyword → TA
  | [] => tNil
  | ⟨_, e, _⟩ :: r => tCons (wpE X e) (tKws X r)
theorem pk_kws : ∀ kws : List Keyword, PK X kws (tKws X kws)
  | [] => pk_nil
  | ⟨_, _, _⟩ :: r => pk_cons wpE_pe (pk_kws r)
def WK (X : Cx) (kws : List Keyword) (ρ : Rho) (m : Mem) (Kl : KL) : Prop :=
  ∀ fr σ H, Holds X.K fr ρ m σ H → ∀ Q : List V → Hp → Prop, (∀ As m' vs H', Kl As m' → Ext (Ms fr m) H (Ms fr m') H' → Holds X.K fr ρ m' σ H' → AllV X.K (Ms fr m') H' As vs → Q vs H') → tKws X kws σ H Q
end
end AL
namespace EV
open PySem PySem.Spec L2 AL
open PyProof.Rows hiding St
def kwsB : List Keyword → List Str → Bool
  | [], [] => true
  | ⟨some n, _, _⟩ :: r, k :: ks => decide (n = k) && kwsB r ks
  | _, _ => false
theorem backKw_fst (pos : Pos) (l : List (Option Str × Sem Value)) : (backToKw pos l).map (·.1) = l.map (·.1) := by
  unfold backToKw
  rw [List.map_map]
  exact List.map_congr_left fun ⟨_, _⟩ _ => rfl
theorem kwsB_names (env : Env) : ∀ {kws : List Keyword} {ks : List Str}, kwsB kws ks = true → (keywordEach kws env).map (·.1) = ks.map some
  | [], [], _ => rfl
  | ⟨some n, e, q⟩ :: r, k :: ks, h => by
    simp only [kwsB, Bool.and_eq_true, decide_eq_true_eq] at h
    obtain ⟨h1, h2⟩ := h
    subst h1
    simp only [keywordEach, List.map_cons]
    rw [kwsB_names env h2]
  | ⟨none, _, _⟩ :: _, _, h => by simp [kwsB] at h
  | [], _ :: _, h => by simp [kwsB] at h
  | ⟨some _, _, _⟩ :: _, [], h => by simp [kwsB] at h
theorem kwsB_ok (pos : Pos) (env : Env) {kws : List Keyword} {ks : List Str} (h : kwsB kws ks = true) : (backToKw pos (keywordEach kws env)).all (·.1.isSome) = true ∧ (backToKw pos (keywordEach kws env)).filterMap (·.1) = ks ∧ (backToKw pos (keywordEach kws env)).any (·.1.isNone) = false := by
  have e := (backKw_fst pos (keywordEach kws env)).trans (kwsB_names env h)
  generalize backToKw pos (keywordEach kws env) = l at e
  have a1 : l.all (·.1.isSome) = (l.map (·.1)).all Option.isSome := by rw [List.all_map]; rfl
  have a2 : l.filterMap (·.1) = (l.map (·.1)).filterMap id := by rw [List.filterMap_map]; rfl
  have a3 : l.any (·.1.isNone) = (l.map (·.1)).any Option.isNone := by rw [List.any_map]; rfl
  rw [a1, a2, a3, e]
  refine ⟨?_, ?_, ?_⟩
  · rw [List.all_map]; exact List.all_eq_true.mpr fun _ _ => rfl
  · rw [List.filterMap_map]
    induction ks with
    | nil => rfl
    | cons a t ih => exact List.filterMap_some
  · rw [List.any_map]; exact List.any_eq_false.mpr fun _ _ z => nomatch z
theorem perm_pair {α β : Type} {R : α → β → Prop} {a0 : α} {b0 : β} {l : List α} {r : List β} (h : Paired R l r) : ∀ {ord : List Nat}, (ord.all fun i => decide (i < l.length)) = true → Paired R (permL0 a0 ord l) (permL0 b0 ord r)
  | [], _ => .nil
  | i :: ord, ho => by
    rw [List.all_cons, Bool.and_eq_true] at ho
    refine .cons ?_ (perm_pair h ho.2)
    have lt : i < l.length := of_decide_eq_true ho.1
    have key : ∀ {l : List α} {r : List β} {i : Nat}, Paired R l r → i < l.length → R (l.getD i a0) (r.getD i b0) := by
      intro l r i h
      induction h generalizing i with
      | nil => intro z; exact absurd z (Nat.not_lt_zero _)
      | cons q t ih =>
        intro z
        cases i with
        | zero => exact q
        | succ i => exact ih (by simpa using z)
    exact key h lt
/-- keywords alone: the values in the order of the parameters -/
def gK {α : Type} (d : α) (ord : List Nat) : List α → List α → List α
  | [], ws => if ws.length = ord.length then permL0 d ord ws else []
  | _, _ => []
theorem kb_of {K : PySem.W.Frag} {fd : FuncData} {ps ks : List Str} {ord : List Nat} (hn : ps.length ≠ 0) (ho : (ord.all fun i => decide (i < ord.length)) = true) (h : ∀ ws : List Value, ws.length = ord.length → bindArgs fd ⟨[], ks.zip ws⟩ = pure (ps.zip (permL0 .none ord ws))) :
    KBinds K fd ps ks (gK .none ord) (gK .non ord) where
  to := fun s us ws _ hl => by
    cases us with
    | cons u us => exact absurd hl.symm hn
    | nil =>
      simp only [gK] at hl ⊢
      split at hl
      · rename_i e
        rw [if_pos e]
        exact .of_eq (h ws e)
      · exact absurd hl.symm hn
  rel := fun {vs us zs ws} r1 r2 => by
    cases r1 with
    | cons _ _ => exact .nil
    | nil =>
      simp only [gK]
      rw [r2.length]
      split
      · rename_i e
        exact perm_pair r2 (by rw [r2.length, e]; exact ho)
      · exact .nil
/-- the def with the number n, called with these names -/
def KwOk (G : Gx) (x : Str) (n : Nat) (ks : List Str) (ord : List Nat) : Prop := ∃ j f fd ps, j ≤ G.k ∧ FnOk G.P G.w G.K G.mg G.base CX0 j f fd ps (spOf G.K (C_call G.Z (G.T.call n))) ∧ G.mg x = some (.ref f) ∧ PySem.W.keepIn G.K (.ref f) = true ∧ KBinds G.K fd ps ks (gK .none ord) (gK .non ord)
section
variable {G : Gx} {N : List Str} {sc : Scope} {df : Bool} {pos p : Pos} {kws : List Keyword} {cs : CEs}
theorem wk_of {X : Cx} (at_ : G.At N sc df X) {ρc : Ev} {ow : Own} {mo : Mem} {qs : List Addr} {ρ : Rho} (hl : qs.length = ow.length) (hr : RepE G.Z mo qs ρc ρ) : ∀ {kws : List Keyword} {cs : CEs} (H : OkEs G N sc df cs (kws.map (·.value))) {vs : List CV} {Kl : KL}, evL G.T cs ρc ow = some vs → (∀ As, RepL G.Z mo qs vs As → Kl As (mo ++ memW G.Z qs ow)) → WK X kws ρ (mo ++ memW G.Z qs ow) Kl
  | [], cs, H, vs, Kl, h, q => by
    cases H
    simp only [evL] at h
    cases h
    exact fun fr σ Hh o Q g => g [] _ [] Hh (q [] .nil) (.refl _ _) o .nil
  | ⟨nm, e, kp⟩ :: r, cs, H, vs, Kl, h, q => by
    cases H with
    | cons h1 t =>
      simp only [evL] at h
      split at h
      · cases h
      · rename_i v hv
        split at h
        · cases h
        · rename_i us hu
          cases h
          intro fr σ Hh o Q g
          refine (h1 X at_ _ _ _ hv _ _ _ hl hr).to (Kt := fun A m' => RepC G.Z mo qs v A ∧ m' = mo ++ memW G.Z qs ow) (fun A hA => ⟨hA, rfl⟩) fr σ Hh o _ fun A m1 w H1 ⟨hA, em⟩ x1 o1 r1 => ?_
          subst em
          refine wk_of at_ hl hr t hu (Kl := fun As m' => RepL G.Z mo qs us As ∧ m' = mo ++ memW G.Z qs ow) (fun As hAs => ⟨hAs, rfl⟩) fr σ H1 o1 _ fun As m2 ws H2 ⟨hAs, em⟩ x2 o2 r2 => ?_
          subst em
          exact g (A :: As) _ (w :: ws) H2 (q _ (.cons hA hAs)) (x1.trans x2) o2 (.cons (A.st r1 x2) r2)
theorem okE_callk {n : Nat} {x : Str} {ks : List Str} {ord : List Nat} (F : KwOk G x n ks ord) (hg : sc.names.lookup x = some .globalImplicit) (hd : (x == ("__debug__" : Str)) = false) (hk : kwsB kws ks = true) (H : OkEs G N sc df cs (kws.map (·.value))) : OkE G N sc df (.callk n ord cs) (.Call (.Name x p) [] kws pos) := fun X at_ ρc ow v h mo qs ρ hl hr Kt q fr σ Hh o Q gQ => by
  simp only [evE] at h
  split at h
  · cases h
  · rename_i vs hvs
    split at h
    · rename_i hord
      split at h
      · rename_i u hu
        cases h
        obtain ⟨j, f, fd, ps, hj, F, hm, hkp, hb⟩ := F
        have hrm := at_.room.mono hj
        have e1 := at_.prog
        have e2 := at_.wd
        have e3 := at_.kt
        have e4 := at_.mt
        have e5 := at_.bas
        rw [← e1, ← e2, ← e4, ← e5] at F
        obtain ⟨a1, a2, a3⟩ := kwsB_ok pos X.env hk
        refine le_E (pe_callN (E := E0) (by rw [e3]; exact F) hrm (gl_of at_ hg) (by rw [e4]; exact hm) (by rw [e3]; exact hkp) (by rw [e3]; exact hb) pass0 (pk_kws _) a1 a2 hd (by rw [a3]; rfl)) ?_
        refine wk_of at_ hl hr H hvs (Kl := fun As m' => RepL G.Z mo qs vs As ∧ m' = mo ++ memW G.Z qs ow) (fun As hAs => ⟨hAs, rfl⟩) fr σ Hh o _ fun As m2 ws H2 ⟨hAs, em⟩ x2 o2 r2 => ?_
        subst em
        rw [Bool.and_eq_true] at hord
        have hln : ws.length = ord.length := by rw [← r2.length, ← Paired.length hAs]; exact of_decide_eq_true hord.2
        have hord := hord.1
        have eg : gK V.non ord [] ws = permL0 V.non ord ws := by simp only [gK]; rw [if_pos hln]
        have ho2 : (ord.all fun i => decide (i < As.length)) = true := by rw [← Paired.length hAs]; exact hord
        have hrep := rep_asO hl (perm_pair (a0 := CV.p .non) (b0 := AL.non) hAs hord)
        have hval := perm_pair (a0 := AL.non) (b0 := V.non) r2 ho2
        have key := call_sp (K := X.K) (mf := []) (mc := mo ++ memW G.Z qs ow) (Kt := Kt) (Q := Q) (C := C_call G.Z (G.T.call n)) (As := permL0 AL.non ord As) (vs := permL0 V.non ord ws) ⟨_, u, hrep, hu, by show Kt _ ((mo ++ memW G.Z qs ow) ++ []); rw [List.append_nil]; exact q _ (.p u)⟩ (by rw [List.append_nil]; exact o2) (by rw [List.append_nil]; exact hval) (by
          rw [List.append_nil]
          exact gQ.from x2)
        rw [e3] at key
        show spOf G.K _ (gK V.non ord [] ws) _ _ _
        rw [eg]
        exact key _
      · cases h
    · cases h
end
end EV
namespace EV
open PySem PySem.Spec L2 AL
open PyProof.Rows hiding St
/-! the check: that a text of plain steps is the program's -/
structure Tab where
  fnm : List Str
  gnm : List Str
  cnm : List Str
  cfl : List (List Str)
  xnm : List (Nat × Str)
  mth : List (Nat × Str × Nat)
  kws : List (Nat × Str × List Str × List Nat)
structure TabOk (G : Gx) (S : Tab) : Prop where
  fn : ∀ (n : Nat) x, S.fnm[n]? = some x → CallOk G x n
  gl : ∀ (n : Nat) x v, S.gnm[n]? = some x → G.T.glob[n]? = some v → GlobV G x v
  mkc : ∀ (c : Nat) x, S.cnm[c]? = some x → MakeOk G x c
  cl : ∀ (c : Nat) fls, S.cfl[c]? = some fls → ClsOk G c ∧ G.Z.fl c = fls
  blt : Blt G.mg
  enu : G.mg ("enumerate" : Str) = none
  xn : ∀ k x, (k, x) ∈ S.xnm → XOk G.mg k x
  zp : G.Z.P = G.P ∧ G.Z.w = G.w
  strm : ∀ c n, (c, ("__str__" : Str), n) ∈ S.mth → StrOk G c n
  kwo : ∀ n x ks ord, (n, x, ks, ord) ∈ S.kws → KwOk G x n ks ord
  held : ∀ n, G.T.call n ≠ (fun _ => none) → HeldOk G n
def visB (sc : Scope) (x : Str) : Bool := match sc.names.lookup x with
  | some .local => true
  | some .cell => true
  | some .free => true
  | _ => false
theorem visB_ok {sc : Scope} {x : Str} (h : visB sc x = true) : sc.names.lookup x = some .local ∨ sc.names.lookup x = some .cell ∨ sc.names.lookup x = some .free := by
  unfold visB at h
  split at h
  · exact .inl (by assumption)
  · exact .inr (.inl (by assumption))
  · exact .inr (.inr (by assumption))
  · cases h
def locB (sc : Scope) (df : Bool) (x : Str) : Bool := match sc.names.lookup x with
  | some .local => true
  | some .cell => df
  | _ => false
theorem locB_ok {sc : Scope} {df : Bool} {x : Str} (h : locB sc df x = true) : sc.names.lookup x = some .local ∨ (df = true ∧ sc.names.lookup x = some .cell) := by
  unfold locB at h
  split at h
  · exact .inl (by assumption)
  · exact .inr ⟨h, by assumption⟩
  · cases h
def glB (sc : Scope) (x : Str) : Bool := match sc.names.lookup x with
  | some .globalImplicit => true
  | _ => false
theorem glB_ok {sc : Scope} {x : Str} (h : glB sc x = true) : sc.names.lookup x = some .globalImplicit := by
  unfold glB at h
  split at h
  · assumption
  · cases h
def nmB (x : Str) : Bool := !(x == ("__debug__" : Str)) && !(x == ("__classdict__" : Str))
theorem nmB_ok {x : Str} (h : nmB x = true) : (x == ("__debug__" : Str)) = false ∧ (x == ("__classdict__" : Str)) = false := by
  unfold nmB at h
  rw [Bool.and_eq_true] at h
  exact ⟨by simpa using h.1, by simpa using h.2⟩
def atB (l : List Str) (i : Nat) (x : Str) : Bool := decide (l[i]? = some x)
theorem atB_ok {l : List Str} {i : Nat} {x : Str} (h : atB l i x = true) : l[i]? = some x := of_decide_eq_true h
def namesB (N : List Str) (sc : Scope) (df : Bool) : List Nat → List Expr → Bool
  | [], [] => true
  | j :: js, .Name x _ :: es => atB N j x && locB sc df x && namesB N sc df js es
  | _, _ => false
def tgtB (N : List Str) (sc : Scope) (df : Bool) (js : List Nat) : Expr → Bool
  | .Name x _ => (match js with
    | [j] => atB N j x && locB sc df x
    | _ => false)
  | .Tuple es _ _ => !(js.length == 1) && namesB N sc df js es
  | _ => false
def namesOf : List Nat → List Expr → List (Nat × Str × Pos)
  | j :: js, .Name x p :: es => (j, x, p) :: namesOf js es
  | _, _ => []
def ownOf (js : List Nat) : Expr → List (Str × Nat)
  | .Name x _ => js.map fun j => (x, j)
  | .Tuple es _ _ => (namesOf js es).map fun x => (x.2.1, x.1)
  | _ => []
theorem namesB_ok {N : List Str} {sc : Scope} {df : Bool} : ∀ {js : List Nat} {es : List Expr}, namesB N sc df js es = true → (namesOf js es).map (·.1) = js ∧ ((namesOf js es).map fun j => Expr.Name j.2.1 j.2.2) = es ∧ ∀ x ∈ namesOf js es, N[x.1]? = some x.2.1 ∧ (sc.names.lookup x.2.1 = some .local ∨ (df = true ∧ sc.names.lookup x.2.1 = some .cell))
  | [], [], _ => ⟨rfl, rfl, fun _ h => by cases h⟩
  | j :: js, e :: es, h => by
    cases e with
    | Name x p =>
      simp only [namesB, Bool.and_eq_true] at h
      obtain ⟨h1, h2, h3⟩ := namesB_ok h.2
      refine ⟨by simp [namesOf, h1], by simp [namesOf, h2], fun z hz => ?_⟩
      rcases List.mem_cons.mp hz with rfl | hz
      · exact ⟨atB_ok h.1.1, locB_ok h.1.2⟩
      · exact h3 z hz
    | _ => simp [namesB] at h
  | [], _ :: _, h => by simp [namesB] at h
  | _ :: _, [], h => by simp [namesB] at h
theorem tgtB_ok {N : List Str} {sc : Scope} {df : Bool} {js : List Nat} {tg : Expr} (h : tgtB N sc df js tg = true) : TgtOk N sc df js tg (ownOf js tg) := by
  cases tg with
  | Name x p =>
    simp only [tgtB] at h
    split at h
    · rw [Bool.and_eq_true] at h
      exact .one _ x p (atB_ok h.1) (locB_ok h.2)
    · cases h
  | Tuple es kk tp =>
    simp only [tgtB, Bool.and_eq_true] at h
    obtain ⟨h1, h2, h3⟩ := namesB_ok h.2
    have hne : ∀ j, (namesOf js es).map (·.1) ≠ [j] := fun j e => by
      rw [h1] at e
      subst e
      simp at h
    have := TgtOk.tup (N := N) (sc := sc) (df := df) (namesOf js es) kk tp hne h3
    rw [h1, h2] at this
    exact this
  | _ => simp [tgtB] at h
def cellB (scope : Scope) (own : List (Str × Nat)) : Bool := own.all fun p => match scope.names.lookup p.1 with
  | some .local => true
  | some .cell => true
  | _ => false
theorem cellB_ok {scope : Scope} {own : List (Str × Nat)} (h : cellB scope own = true) : CellOk scope own := fun p hp => by
  have := List.all_eq_true.mp h p hp
  split at this
  · exact .inl (by assumption)
  · exact .inr (by assumption)
  · cases this
def noSet : Expr → Bool
  | .Set .. => false
  | _ => true
theorem noSet_eq {e : Expr} (h : noSet e = true) (env : Env) (x : Value) : foldedSetIterable e env x = pure x := by
  cases e with
  | Set => simp [noSet] at h
  | _ => rfl
theorem noSet_in {e : Expr} (h : noSet e = true) (o : CmpOp) : behindInMarks o e = false := by
  cases e with
  | Set => simp [noSet] at h
  | _ => rfl
def constB : PV → Const → Bool
  | .int i, .int j => decide (i = j)
  | .bl a, .bool b => a == b
  | .non, .none => true
  | .str x, .str y => decide (x = y)
  | _, _ => false
def boB : BO → Operator → Bool
  | .add, .Add => true
  | .sub, .Sub => true
  | .mul, .Mult => true
  | .fdiv, .FloorDiv => true
  | .mod, .Mod => true
  | _, _ => false
theorem boB_ok {o : BO} {op : Operator} (h : boB o op = true) : op = boE o := by
  unfold boB at h
  split at h <;> first | rfl | cases h
def coB : CO → CmpOp → Bool
  | .lt, .Lt => true
  | .le, .LtE => true
  | .gt, .Gt => true
  | .ge, .GtE => true
  | .eq, .Eq => true
  | .ne, .NotEq => true
  | .is, .Is => true
  | .isn, .IsNot => true
  | .inn, .In => true
  | .nin, .NotIn => true
  | _, _ => false
theorem coB_ok {o : CO} {op : CmpOp} (h : coB o op = true) : op = coE o := by
  unfold coB at h
  split at h <;> first | rfl | cases h
/-- tests without a choice in them -/
def tOk : Expr → Bool
  | .IfExp .. => false
  | .UnaryOp .Not x _ => tOk x
  | .BoolOp _ _ _ => true
  | _ => true
def isNo : CE → Bool
  | .no => true
  | _ => false
theorem isNo_ne {c : CE} (h : isNo c = false) : c ≠ .no := by
  intro e
  subst e
  cases h
def bltB (o : BI) (x : Str) : Bool := match o with
  | .len => decide (x = ("len" : Str))
  | .abs => decide (x = ("abs" : Str))
  | .int => decide (x = ("int" : Str))
  | .all => decide (x = ("all" : Str))
  | .any => decide (x = ("any" : Str))
  | .tuple => decide (x = ("tuple" : Str))
  | .list => decide (x = ("list" : Str))
  | .gcd => decide (x = ("gcd" : Str))
mutual
def chkE (S : Tab) (N : List Str) (sc : Scope) (df : Bool) : CE → Expr → Bool
  | .fail, _ => true
  | .no, _ => false
  | .const v, e => (match e with
    | .Constant k _ _ => constB v k
    | _ => false)
  | .var i, e => (match e with
    | .Name x _ => atB N i x && visB sc x && nmB x
    | _ => false)
  | .glob n, e => (match e with
    | .Name x _ => atB S.gnm n x && glB sc x && nmB x
    | _ => false)
  | .bin o a b, e => (match e with
    | .BinOp x op y _ => boB o op && chkE S N sc df a x && chkE S N sc df b y
    | _ => false)
  | .cmp o a b, e => (match e with
    | .Compare x [op] [y] _ => coB o op && noSet y && chkE S N sc df a x && chkE S N sc df b y
    | _ => false)
  | .and a b, e => (match e with
    | .BoolOp .And [x, y] _ => tOk x && tOk y && chkE S N sc df a x && chkE S N sc df b y
    | .BoolOp .And (x :: y :: z :: r) p => tOk x && chkE S N sc df a x && chkE S N sc df b (.BoolOp .And (y :: z :: r) p)
    | _ => false)
  | .or a b, e => (match e with
    | .BoolOp .Or [x, y] _ => tOk x && tOk y && chkE S N sc df a x && chkE S N sc df b y
    | .BoolOp .Or (x :: y :: z :: r) p => tOk x && chkE S N sc df a x && chkE S N sc df b (.BoolOp .Or (y :: z :: r) p)
    | _ => false)
  | .not a, e => (match e with
    | .UnaryOp .Not x _ => chkE S N sc df a x
    | _ => false)
  | .neg a, e => (match e with
    | .UnaryOp .USub x _ => chkE S N sc df a x
    | _ => false)
  | .ife c a b, e => (match e with
    | .IfExp t x y _ => tOk t && chkE S N sc df c t && chkE S N sc df a x && chkE S N sc df b y
    | _ => false)
  | .tup l, e => (match e with
    | .Tuple es _ _ => chkL S N sc df l es
    | _ => false)
  | .lst l, e => (match e with
    | .List es _ => chkL S N sc df l es
    | _ => false)
  | .ix a i, e => (match e with
    | .Subscript x y _ => plainIx y && chkE S N sc df a x && chkE S N sc df i y
    | _ => false)
  | .sl a lo hi, e => (match e with
    | .Subscript x (.Slice el eh none _) _ => chkE S N sc df a x && (match el with
      | none => isNo lo
      | some z => !isNo lo && chkE S N sc df lo z) && (match eh with
      | none => isNo hi
      | some z => !isNo hi && chkE S N sc df hi z)
    | _ => false)
  | .fld c k a, e => (match e with
    | .Attribute x fl _ => (match S.cfl[c]? with
      | some fls => atB fls k fl
      | none => false) && baseOk x && chkE S N sc df a x
    | _ => false)
  | .call n l, e => (match e with
    | .Call (.Name x _) [] [] _ => (match l with
      | .nil => atB S.fnm n x && glB sc x && nmB x
      | _ => false)
    | .Call (.Name x _) (y :: ys) [] _ => atB S.fnm n x && glB sc x && nmB x && (y :: ys).all notStar && chkL S N sc df l (y :: ys)
    | _ => false)
  | .make n l, e => (match e with
    | .Call (.Name x _) (y :: ys) [] _ => atB S.cnm n x && glB sc x && nmB x && (y :: ys).all notStar && chkL S N sc df l (y :: ys)
    | _ => false)
  | .blt o l, e => (match l with
    | .cons a .nil => (match e with
      | .Call (.Name x _) [y] [] _ => bltB o x && !(match o with | .gcd => true | _ => false) && glB sc x && notStar y && chkE S N sc df a y
      | _ => false)
    | .cons a (.cons b .nil) => (match e with
      | .Call (.Name x _) [y, z] [] _ => bltB o x && (match o with | .gcd => true | _ => false) && glB sc x && notStar y && notStar z && chkE S N sc df a y && chkE S N sc df b z
      | _ => false)
    | _ => false)
  | .isi t a, e => (match e with
    | .Call (.Name x _) [y, .Name z _] [] _ => decide (x = ("isinstance" : Str)) && decide (t < 4) && decide (z = (tyS t : Str)) && glB sc x && glB sc z && notStar y && chkE S N sc df a y
    | _ => false)
  | .lc js it a, e => (match e with
    | .ListComp elt [⟨tg, iter, [], 0⟩] scope _ => tgtB N (relS scope sc) true js tg && cellB scope (ownOf js tg) && blkC N sc scope (ownOf js tg) && noSet iter && chkI S N sc df it tg iter && chkE S N (relS scope sc) false a elt
    | _ => false)
  | .lcf js it c a, e => (match e with
    | .ListComp elt [⟨tg, iter, [t], 0⟩] scope _ => tgtB N (relS scope sc) true js tg && cellB scope (ownOf js tg) && blkC N sc scope (ownOf js tg) && noSet iter && chkI S N sc df it tg iter && tOk t && chkE S N (relS scope sc) false c t && chkE S N (relS scope sc) false a elt
    | _ => false)
  | .lcz i j l a b c, e => (match e with
    | .ListComp elt [⟨.Tuple [.Name ni _, .Tuple [.Name nj _, .Name nl _] _ _] _ _, .Call (.Name x2 _) [.Call (.Name x _) [y, z] [] _] [] _, [], 0⟩] scope _ => decide (x2 = ("enumerate" : Str)) && decide (x = ("zip" : Str)) && glB sc x2 && glB sc x && notStar y && notStar z && atB N i ni && atB N j nj && atB N l nl && locB (relS scope sc) false ni && locB (relS scope sc) false nj && locB (relS scope sc) false nl && blkC N sc scope [(ni, i), (nj, j), (nl, l)] && chkE S N sc df a y && chkE S N sc df b z && chkE S N (relS scope sc) false c elt
    | _ => false)
  | .rev a, e => (match e with
    | .Subscript x (.Slice none none (some (.UnaryOp .USub (.Constant (.int 1) _ _) _)) _) _ => chkE S N sc df a x
    | _ => false)
  | .chn o o2 a b c, e => (match e with
    | .Compare x [op, op2] [y, z] _ => isOrd o && isOrd o2 && coB o op && coB o2 op2 && noSet z && chkE S N sc df a x && chkE S N sc df b y && chkE S N sc df c z
    | _ => false)
  | .xb k l, e => (match e with
    | .Call (.Name x _) (y :: ys) [] _ => S.xnm.contains (k, x) && glB sc x && (y :: ys).all notStar && chkL S N sc df l (y :: ys)
    | _ => false)
  | .mxd a b, e => (match e with
    | .Call (.Name x _) [y] [⟨some n, z, _⟩] _ => decide (x = ("max" : Str)) && decide (n = ("default" : Str)) && S.xnm.contains (0, ("max" : Str)) && glB sc x && notStar y && chkE S N sc df a y && chkE S N sc df b z
    | _ => false)
  | .cast a, e => plainT e && chkE S N sc df a e
  | .cnt a b, e => (match e with
    | .Call (.Attribute x m p') [y] [] p => decide (m = ("count" : Str)) && baseOk x && (p'.endLine == p.line) && notStar y && chkE S N sc df a x && chkE S N sc df b y
    | _ => false)
  | .callv i l, e => (match e with
    | .Call (.Name x _) (y :: ys) [] _ => atB N i x && visB sc x && nmB x && (y :: ys).all notStar && chkL S N sc df l (y :: ys)
    | _ => false)
  | .sadd a b, e => (match e with
    | .BinOp x .Add y _ => chkE S N sc df a x && chkE S N sc df b y
    | _ => false)
  | .str1 a, e => (match e with
    | .Call (.Name x _) [y] [] _ => decide (x = ("str" : Str)) && glB sc x && notStar y && chkE S N sc df a y
    | _ => false)
  | .fmt a, e => (match e with
    | .FormattedValue x (-1) none _ => chkE S N sc df a x
    | _ => false)
  | .fstr l, e => (match e with
    | .JoinedStr (x :: y :: r) _ => chkL S N sc df l (x :: y :: r)
    | _ => false)
  | .join a b, e => (match e with
    | .Call (.Attribute x m p') [y] [] p => decide (m = ("join" : Str)) && baseOk x && (p'.endLine == p.line) && notStar y && chkE S N sc df a x && chkE S N sc df b y
    | _ => false)
  | .stri c n a, e => (match e with
    | .Call (.Name x _) [y] [] _ => decide (x = ("str" : Str)) && S.mth.contains (c, ("__str__" : Str), n) && glB sc x && notStar y && chkE S N sc df a y
    | _ => false)
  | .dcm js it k v, e => (match e with
    | .DictComp kx vx [⟨tg, iter, [], 0⟩] scope _ => tgtB N (relS scope sc) true js tg && cellB scope (ownOf js tg) && blkC N sc scope (ownOf js tg) && noSet iter && chkI S N sc df it tg iter && chkE S N (relS scope sc) false k kx && chkE S N (relS scope sc) false v vx
    | _ => false)
  | .callk n ord l, e => (match e with
    | .Call (.Name x _) [] kws _ => S.kws.any (fun q => decide (q.1 = n) && decide (q.2.1 = x) && decide (q.2.2.2 = ord) && kwsB kws q.2.2.1) && glB sc x && nmB x && chkL S N sc df l (kws.map (·.value))
    | _ => false)
  | .lc2 js js2 it it2 a, e => (match e with
    | .ListComp elt [⟨tg, iter, [], 0⟩, ⟨tg1, iter1, [], 0⟩] scope _ => tgtB N (relS scope sc) true js tg && tgtB N (relS scope sc) true js2 tg1 && cellB scope (ownOf js tg ++ ownOf js2 tg1) && blkC N sc scope (ownOf js tg ++ ownOf js2 tg1) && noSet iter && noSet iter1 && chkI S N sc df it tg iter && chkI S N (relS scope sc) false it2 tg1 iter1 && chkE S N (relS scope sc) false a elt
    | _ => false)
  | .dix a i, e => (match e with
    | .Subscript x y _ => plainIx y && chkE S N sc df a x && chkE S N sc df i y
    | _ => false)
def chkL (S : Tab) (N : List Str) (sc : Scope) (df : Bool) : CEs → List Expr → Bool
  | .nil, es => (match es with
    | [] => true
    | _ => false)
  | .cons a t, es => (match es with
    | e :: es => notStar e && chkE S N sc df a e && chkL S N sc df t es
    | _ => false)
def chkI (S : Tab) (N : List Str) (sc : Scope) (df : Bool) : CI → Expr → Expr → Bool
  | .ex a, _, e => chkE S N sc df a e
  | .rng1 a, _, e => (match e with
    | .Call (.Name x _) [y] [] _ => decide (x = ("range" : Str)) && glB sc x && notStar y && chkE S N sc df a y
    | _ => false)
  | .rng2 a b, _, e => (match e with
    | .Call (.Name x _) [y, z] [] _ => decide (x = ("range" : Str)) && glB sc x && notStar y && notStar z && chkE S N sc df a y && chkE S N sc df b z
    | _ => false)
  | .rngD a b, _, e => (match e with
    | .Call (.Name x _) [y, z, .UnaryOp .USub (.Constant (.int 1) _ _) _] [] _ => decide (x = ("range" : Str)) && glB sc x && notStar y && notStar z && chkE S N sc df a y && chkE S N sc df b z
    | _ => false)
  | .zip a b, tg, e => (match tg, e with
    | .Tuple _ _ _, .Call (.Name x _) [y, z] [] _ => decide (x = ("zip" : Str)) && glB sc x && notStar y && notStar z && chkE S N sc df a y && chkE S N sc df b z
    | _, _ => false)
  | .zip3 a b c, tg, e => (match tg, e with
    | .Tuple _ _ _, .Call (.Name x _) [y, z, u] [] _ => decide (x = ("zip" : Str)) && glB sc x && notStar y && notStar z && notStar u && chkE S N sc df a y && chkE S N sc df b z && chkE S N sc df c u
    | _, _ => false)
  | .enum a, tg, e => (match tg, e with
    | .Tuple _ _ _, .Call (.Name x _) [y] [] _ => decide (x = ("enumerate" : Str)) && glB sc x && notStar y && chkE S N sc df a y
    | _, _ => false)
end
end EV
namespace EV
open PySem PySem.Spec L2 AL
open PyProof.Rows hiding St
section
variable {G : Gx} {S : Tab} (H : TabOk G S)
abbrev Both (G : Gx) (N : List Str) (sc : Scope) (df : Bool) (c : CE) (e : Expr) : Prop := OkE G N sc df c e ∧ (tOk e = true → OkT G N sc df c e)
theorem both_of {N : List Str} {sc : Scope} {df : Bool} {c : CE} {e : Expr} (hp : plainT e = true) (h : OkE G N sc df c e) : Both G N sc df c e := ⟨h, fun _ => okT_of hp h⟩
include H
mutual
theorem chkE_ok : ∀ (c : CE) {N : List Str} {sc : Scope} {df : Bool} {e : Expr}, chkE S N sc df c e = true → Both G N sc df c e ∧ (∀ op es p, e = .BoolOp op es p → OkW G N sc df c e)
  | .fail, N, sc, df, e, _ => ⟨⟨fun X _ ρc ow v h => by simp [evE] at h, fun _ X _ ρc ow v b h => by simp [evE] at h⟩, fun _ _ _ _ X _ ρc ow v b h => by simp [evE] at h⟩
  | .no, N, sc, df, e, h => by simp [chkE] at h
  | .const v, N, sc, df, e, h => by
    simp only [chkE] at h
    split at h
    · refine ⟨both_of rfl ?_, fun _ _ _ z => by cases z⟩
      unfold constB at h
      split at h
      · cases of_decide_eq_true h; exact okE_int
      · cases (beq_iff_eq.mp h); exact okE_bool
      · exact okE_none
      · cases of_decide_eq_true h; exact okE_str
      · cases h
    · cases h
  | .var i, N, sc, df, e, h => by
    simp only [chkE] at h
    split at h
    · simp only [Bool.and_eq_true] at h
      exact ⟨both_of rfl (okE_var (atB_ok h.1.1) (visB_ok h.1.2) (nmB_ok h.2).1 (nmB_ok h.2).2), fun _ _ _ z => by cases z⟩
    · cases h
  | .glob n, N, sc, df, e, h => by
    simp only [chkE] at h
    split at h
    · simp only [Bool.and_eq_true] at h
      exact ⟨both_of rfl (okE_glob (glB_ok h.1.2) (fun p hp => H.gl _ _ _ (atB_ok h.1.1) hp) (nmB_ok h.2).1), fun _ _ _ z => by cases z⟩
    · cases h
  | .bin o a b, N, sc, df, e, h => by
    simp only [chkE] at h
    split at h
    · simp only [Bool.and_eq_true] at h
      rw [boB_ok h.1.1]
      exact ⟨both_of rfl (okE_bin (chkE_ok a h.1.2).1.1 (chkE_ok b h.2).1.1), fun _ _ _ z => by cases z⟩
    · cases h
  | .cmp o a b, N, sc, df, e, h => by
    simp only [chkE] at h
    split at h
    · simp only [Bool.and_eq_true] at h
      rw [coB_ok h.1.1.1]
      exact ⟨⟨okE_cmp (noSet_in h.1.1.2 _) (chkE_ok a h.1.2).1.1 (chkE_ok b h.2).1.1, fun _ => okT_cmp (noSet_in h.1.1.2 _) (chkE_ok a h.1.2).1.1 (chkE_ok b h.2).1.1⟩, fun _ _ _ z => by cases z⟩
    · cases h
  | .and a b, N, sc, df, e, h => by
    simp only [chkE] at h
    split at h
    · simp only [Bool.and_eq_true] at h
      have ha := (chkE_ok a h.1.2).1
      have hb := (chkE_ok b h.2).1
      have hw := okW_and (pos := ‹Pos›) (ha.2 h.1.1.1) (okW_and1 (hb.2 h.1.1.2))
      exact ⟨⟨okE_and ha.1 (okE_one hb.1), fun _ => okT_w hw⟩, fun _ _ _ _ => hw⟩
    · simp only [Bool.and_eq_true] at h
      have ha := (chkE_ok a h.1.2).1
      have hb := chkE_ok b h.2
      have hw := okW_and (pos := ‹Pos›) (ha.2 h.1.1) (hb.2 _ _ _ rfl)
      exact ⟨⟨okE_and ha.1 hb.1.1, fun _ => okT_w hw⟩, fun _ _ _ _ => hw⟩
    · cases h
  | .or a b, N, sc, df, e, h => by
    simp only [chkE] at h
    split at h
    · simp only [Bool.and_eq_true] at h
      have ha := (chkE_ok a h.1.2).1
      have hb := (chkE_ok b h.2).1
      have hw := okW_or (pos := ‹Pos›) (ha.2 h.1.1.1) (okW_or1 (hb.2 h.1.1.2))
      exact ⟨⟨okE_or ha.1 (okE_one hb.1), fun _ => okT_w hw⟩, fun _ _ _ _ => hw⟩
    · simp only [Bool.and_eq_true] at h
      have ha := (chkE_ok a h.1.2).1
      have hb := chkE_ok b h.2
      have hw := okW_or (pos := ‹Pos›) (ha.2 h.1.1) (hb.2 _ _ _ rfl)
      exact ⟨⟨okE_or ha.1 hb.1.1, fun _ => okT_w hw⟩, fun _ _ _ _ => hw⟩
    · cases h
  | .not a, N, sc, df, e, h => by
    simp only [chkE] at h
    split at h
    · have ha := (chkE_ok a h).1
      exact ⟨⟨okE_not ha.1, fun ht => okT_not (ha.2 (by simpa [tOk] using ht))⟩, fun _ _ _ z => by cases z⟩
    · cases h
  | .neg a, N, sc, df, e, h => by
    simp only [chkE] at h
    split at h
    · exact ⟨both_of rfl (okE_neg (chkE_ok a h).1.1), fun _ _ _ z => by cases z⟩
    · cases h
  | .ife c a b, N, sc, df, e, h => by
    simp only [chkE] at h
    split at h
    · simp only [Bool.and_eq_true] at h
      exact ⟨⟨okE_ife ((chkE_ok c h.1.1.2).1.2 h.1.1.1) (chkE_ok a h.1.2).1.1 (chkE_ok b h.2).1.1, fun ht => by simp [tOk] at ht⟩, fun _ _ _ z => by cases z⟩
    · cases h
  | .tup l, N, sc, df, e, h => by
    simp only [chkE] at h
    split at h
    · exact ⟨both_of rfl (okE_tup (chkL_ok l h)), fun _ _ _ z => by cases z⟩
    · cases h
  | .lst l, N, sc, df, e, h => by
    simp only [chkE] at h
    split at h
    · exact ⟨both_of rfl (okE_lst (chkL_ok l h)), fun _ _ _ z => by cases z⟩
    · cases h
  | .ix a i, N, sc, df, e, h => by
    simp only [chkE] at h
    split at h
    · simp only [Bool.and_eq_true] at h
      exact ⟨both_of rfl (okE_ix h.1.1 (chkE_ok a h.1.2).1.1 (chkE_ok i h.2).1.1), fun _ _ _ z => by cases z⟩
    · cases h
  | .sl a lo hi, N, sc, df, e, h => by
    simp only [chkE] at h
    split at h
    · rename_i x el eh p1 p2
      simp only [Bool.and_eq_true] at h
      have ho : ∀ (c : CE) (z : Option Expr), (match z with
          | none => isNo c
          | some z => !isNo c && chkE S N sc df c z) = true → (∀ z, chkE S N sc df c z = true → OkE G N sc df c z) → OkO G N sc df c z := fun c z hz hc => by
        cases z with
        | none =>
          cases c <;> first | exact okO_none | (simp [isNo] at hz)
        | some z =>
          simp only [Bool.and_eq_true] at hz
          exact okO_some (isNo_ne (by simpa using hz.1)) (hc z hz.2)
      exact ⟨both_of rfl (okE_sl (chkE_ok a h.1.1).1.1 (ho lo el h.1.2 fun z hz => (chkE_ok lo hz).1.1) (ho hi eh h.2 fun z hz => (chkE_ok hi hz).1.1)), fun _ _ _ z => by cases z⟩
    · cases h
  | .fld c k a, N, sc, df, e, h => by
    simp only [chkE] at h
    split at h
    · simp only [Bool.and_eq_true] at h
      have h1 := h.1.1
      split at h1
      · rename_i fls hf
        obtain ⟨hc, hfl⟩ := H.cl _ _ hf
        exact ⟨both_of rfl (okE_fld hc (by rw [hfl]; exact atB_ok h1) h.1.2 (chkE_ok a h.2).1.1), fun _ _ _ z => by cases z⟩
      · cases h1
    · cases h
  | .call n l, N, sc, df, e, h => by
    simp only [chkE] at h
    split at h
    · split at h
      · simp only [Bool.and_eq_true] at h
        exact ⟨both_of rfl (okE_call0 (H.fn _ _ (atB_ok h.1.1)) (glB_ok h.1.2) (nmB_ok h.2).1), fun _ _ _ z => by cases z⟩
      · cases h
    · simp only [Bool.and_eq_true] at h
      exact ⟨both_of rfl (okE_call (H.fn _ _ (atB_ok h.1.1.1.1)) (glB_ok h.1.1.1.2) (nmB_ok h.1.1.2).1 h.1.2 (chkL_ok l h.2)), fun _ _ _ z => by cases z⟩
    · cases h
  | .make n l, N, sc, df, e, h => by
    simp only [chkE] at h
    split at h
    · simp only [Bool.and_eq_true] at h
      exact ⟨both_of rfl (okE_make (H.mkc _ _ (atB_ok h.1.1.1.1)) (glB_ok h.1.1.1.2) (nmB_ok h.1.1.2).1 h.1.2 (chkL_ok l h.2)), fun _ _ _ z => by cases z⟩
    · cases h
  | .blt o (.cons a .nil), N, sc, df, e, h => by
    simp only [chkE] at h
    split at h
    · simp only [Bool.and_eq_true] at h
      have ha := (chkE_ok a h.2).1.1
      have hg := glB_ok h.1.1.2
      have hs := h.1.2
      have hb := h.1.1.1.1
      refine ⟨both_of rfl ?_, fun _ _ _ z => by cases z⟩
      cases o with
      | len => cases of_decide_eq_true hb; exact okE_len H.blt hg hs ha
      | abs => cases of_decide_eq_true hb; exact okE_abs H.blt hg hs ha
      | int => cases of_decide_eq_true hb; exact okE_int1 H.blt hg hs ha
      | all => cases of_decide_eq_true hb; exact okE_all H.blt hg hs ha
      | any => cases of_decide_eq_true hb; exact okE_any H.blt hg hs ha
      | tuple => cases of_decide_eq_true hb; exact okE_tuple1 H.blt hg hs ha
      | list => cases of_decide_eq_true hb; exact okE_list1 H.blt hg hs ha
      | gcd => exact absurd h.1.1.1.2 (by decide)
    · cases h
  | .blt o (.cons a (.cons b .nil)), N, sc, df, e, h => by
    simp only [chkE] at h
    split at h
    · simp only [Bool.and_eq_true] at h
      have hb := h.1.1.1.1.1.1
      have hk := h.1.1.1.1.1.2
      refine ⟨both_of rfl ?_, fun _ _ _ z => by cases z⟩
      cases o with
      | gcd => cases of_decide_eq_true hb; exact okE_gcd H.blt (glB_ok h.1.1.1.1.2) h.1.1.1.2 h.1.1.2 (chkE_ok a h.1.2).1.1 (chkE_ok b h.2).1.1
      | _ => cases hk
    · cases h
  | .blt o .nil, N, sc, df, e, h => by simp [chkE] at h
  | .blt o (.cons a (.cons b (.cons _ _))), N, sc, df, e, h => by simp [chkE] at h
  | .isi t a, N, sc, df, e, h => by
    simp only [chkE] at h
    split at h
    · simp only [Bool.and_eq_true] at h
      cases of_decide_eq_true h.1.1.1.1.1.1
      have e2 := of_decide_eq_true h.1.1.1.1.2
      subst e2
      exact ⟨both_of rfl (okE_isi H.blt (of_decide_eq_true h.1.1.1.1.1.2) (glB_ok h.1.1.1.2) (glB_ok h.1.1.2) h.1.2 (chkE_ok a h.2).1.1), fun _ _ _ z => by cases z⟩
    · cases h
  | .lc js it a, N, sc, df, e, h => by
    simp only [chkE] at h
    split at h
    · simp only [Bool.and_eq_true] at h
      exact ⟨both_of rfl (okE_lc (tgtB_ok h.1.1.1.1.1) (cellB_ok h.1.1.1.1.2) h.1.1.1.2 (noSet_eq h.1.1.2) (chkI_ok it h.1.2) (chkE_ok a h.2).1.1), fun _ _ _ z => by cases z⟩
    · cases h
  | .lcf js it c a, N, sc, df, e, h => by
    simp only [chkE] at h
    split at h
    · simp only [Bool.and_eq_true] at h
      exact ⟨both_of rfl (okE_lcf (tgtB_ok h.1.1.1.1.1.1.1) (cellB_ok h.1.1.1.1.1.1.2) h.1.1.1.1.1.2 (noSet_eq h.1.1.1.1.2) (chkI_ok it h.1.1.1.2) ((chkE_ok c h.1.2).1.2 h.1.1.2) (chkE_ok a h.2).1.1), fun _ _ _ z => by cases z⟩
    · cases h
  | .lcz i j l a b c, N, sc, df, e, h => by
    simp only [chkE] at h
    split at h
    · simp only [Bool.and_eq_true] at h
      obtain ⟨⟨⟨⟨⟨⟨⟨⟨⟨⟨⟨⟨⟨⟨⟨q1, q2⟩, q3⟩, q4⟩, q5⟩, q6⟩, q7⟩, q8⟩, q9⟩, q10⟩, q11⟩, q12⟩, q13⟩, q14⟩, q15⟩, q16⟩ := h
      cases of_decide_eq_true q1
      cases of_decide_eq_true q2
      have lc : ∀ {s : Scope} {x : Str}, locB s false x = true → s.names.lookup x = some .local := fun h => (locB_ok h).elim id fun h => by cases h.1
      exact ⟨both_of rfl (okE_lcz H.blt H.enu (glB_ok q3) (glB_ok q4) q5 q6 (chkE_ok a q14).1.1 (chkE_ok b q15).1.1 (atB_ok q7) (atB_ok q8) (atB_ok q9) (lc q10) (lc q11) (lc q12) q13 (chkE_ok c q16).1.1), fun _ _ _ z => by cases z⟩
    · cases h
  | .rev a, N, sc, df, e, h => by
    simp only [chkE] at h
    split at h
    · exact ⟨both_of rfl (okE_rev (chkE_ok a h).1.1), fun _ _ _ z => by cases z⟩
    · cases h
  | .chn o o2 a b c, N, sc, df, e, h => by
    simp only [chkE] at h
    split at h
    · simp only [Bool.and_eq_true] at h
      obtain ⟨⟨⟨⟨⟨⟨⟨q1, q2⟩, q3⟩, q4⟩, q5⟩, q6⟩, q7⟩, q8⟩ := h
      rw [coB_ok q3, coB_ok q4]
      exact ⟨⟨okE_chn q1 q2 (lastMarks_ord (noSet_in q5 _)) (chkE_ok a q6).1.1 (chkE_ok b q7).1.1 (chkE_ok c q8).1.1, fun _ => okT_chn q1 q2 (lastMarks_ord (noSet_in q5 _)) (chkE_ok a q6).1.1 (chkE_ok b q7).1.1 (chkE_ok c q8).1.1⟩, fun _ _ _ z => by cases z⟩
    · cases h
  | .xb k l, N, sc, df, e, h => by
    simp only [chkE] at h
    split at h
    · simp only [Bool.and_eq_true] at h
      exact ⟨both_of rfl (okE_xb (H.xn _ _ (by simpa using h.1.1.1)) (glB_ok h.1.1.2) h.1.2 (chkL_ok l h.2)), fun _ _ _ z => by cases z⟩
    · cases h
  | .mxd a b, N, sc, df, e, h => by
    simp only [chkE] at h
    split at h
    · simp only [Bool.and_eq_true] at h
      obtain ⟨⟨⟨⟨⟨⟨q1, q2⟩, q3⟩, q4⟩, q5⟩, q6⟩, q7⟩ := h
      cases of_decide_eq_true q1
      cases of_decide_eq_true q2
      have hm : G.mg "max" = none := by
        rcases H.xn 0 "max" (by simpa using q3) with ⟨_, _, h⟩ | ⟨h, _⟩ | ⟨h, _⟩ | ⟨h, _⟩
        · exact h
        all_goals cases h
      exact ⟨both_of rfl (okE_mxd hm (glB_ok q4) q5 (chkE_ok a q6).1.1 (chkE_ok b q7).1.1), fun _ _ _ z => by cases z⟩
    · cases h
  | .cast a, N, sc, df, e, h => by
    simp only [chkE, Bool.and_eq_true] at h
    exact ⟨both_of h.1 (okE_cast (chkE_ok a h.2).1.1), fun _ _ _ z => by rw [z] at h; simp [plainT] at h⟩
  | .cnt a b, N, sc, df, e, h => by
    simp only [chkE] at h
    split at h
    · simp only [Bool.and_eq_true] at h
      obtain ⟨⟨⟨⟨⟨q1, q2⟩, q3⟩, q4⟩, q5⟩, q6⟩ := h
      cases of_decide_eq_true q1
      exact ⟨both_of rfl (okE_cnt q2 q3 q4 (fun env => few1 q4 _ env) (chkE_ok a q5).1.1 (chkE_ok b q6).1.1), fun _ _ _ z => by cases z⟩
    · cases h
  | .callv i l, N, sc, df, e, h => by
    simp only [chkE] at h
    split at h
    · simp only [Bool.and_eq_true] at h
      exact ⟨both_of rfl (okE_callv H.held (atB_ok h.1.1.1.1) (visB_ok h.1.1.1.2) (nmB_ok h.1.1.2).1 (nmB_ok h.1.1.2).2 h.1.2 (chkL_ok l h.2)), fun _ _ _ z => by cases z⟩
    · cases h
  | .sadd a b, N, sc, df, e, h => by
    simp only [chkE] at h
    split at h
    · simp only [Bool.and_eq_true] at h
      exact ⟨both_of rfl (okE_sadd (chkE_ok a h.1).1.1 (chkE_ok b h.2).1.1), fun _ _ _ z => by cases z⟩
    · cases h
  | .str1 a, N, sc, df, e, h => by
    simp only [chkE] at h
    split at h
    · simp only [Bool.and_eq_true] at h
      obtain ⟨⟨⟨q1, q2⟩, q3⟩, q4⟩ := h
      cases of_decide_eq_true q1
      exact ⟨both_of rfl (okE_str1 H.blt.str (glB_ok q2) q3 (chkE_ok a q4).1.1), fun _ _ _ z => by cases z⟩
    · cases h
  | .fmt a, N, sc, df, e, h => by
    simp only [chkE] at h
    split at h
    · exact ⟨both_of rfl (okE_fmt (chkE_ok a h).1.1), fun _ _ _ z => by cases z⟩
    · cases h
  | .fstr l, N, sc, df, e, h => by
    simp only [chkE] at h
    split at h
    · exact ⟨both_of rfl (okE_fstr (chkEs_ok l h)), fun _ _ _ z => by cases z⟩
    · cases h
  | .join a b, N, sc, df, e, h => by
    simp only [chkE] at h
    split at h
    · simp only [Bool.and_eq_true] at h
      obtain ⟨⟨⟨⟨⟨q1, q2⟩, q3⟩, q4⟩, q5⟩, q6⟩ := h
      cases of_decide_eq_true q1
      exact ⟨both_of rfl (okE_join q2 q3 q4 (chkE_ok a q5).1.1 (chkE_ok b q6).1.1), fun _ _ _ z => by cases z⟩
    · cases h
  | .stri c n a, N, sc, df, e, h => by
    simp only [chkE] at h
    split at h
    · simp only [Bool.and_eq_true] at h
      obtain ⟨⟨⟨⟨q1, q2⟩, q3⟩, q4⟩, q5⟩ := h
      cases of_decide_eq_true q1
      exact ⟨both_of rfl (okE_stri (H.strm _ _ (by simpa using q2)) H.blt.str (glB_ok q3) q4 (chkE_ok a q5).1.1), fun _ _ _ z => by cases z⟩
    · cases h
  | .dcm js it k v, N, sc, df, e, h => by
    simp only [chkE] at h
    split at h
    · simp only [Bool.and_eq_true] at h
      obtain ⟨⟨⟨⟨⟨⟨q1, q2⟩, q3⟩, q4⟩, q5⟩, q6⟩, q7⟩ := h
      exact ⟨both_of rfl (okE_dcm H.zp (tgtB_ok q1) (cellB_ok q2) q3 (noSet_eq q4) (chkI_ok it q5) (chkE_ok k q6).1.1 (chkE_ok v q7).1.1), fun _ _ _ z => by cases z⟩
    · cases h
  | .callk n ord l, N, sc, df, e, h => by
    simp only [chkE] at h
    split at h
    · simp only [Bool.and_eq_true] at h
      obtain ⟨⟨⟨h1, h2⟩, h3⟩, h4⟩ := h
      obtain ⟨⟨n', x', ks, ord'⟩, hm, hq⟩ := List.any_eq_true.mp h1
      simp only [Bool.and_eq_true] at hq
      obtain ⟨⟨⟨e1, e2⟩, e3⟩, hk⟩ := hq
      cases of_decide_eq_true e1
      cases of_decide_eq_true e2
      cases of_decide_eq_true e3
      exact ⟨both_of rfl (okE_callk (H.kwo _ _ _ _ hm) (glB_ok h2) (nmB_ok h3).1 hk (chkEs_ok l h4)), fun _ _ _ z => by cases z⟩
    · cases h
  | .lc2 js js2 it it2 a, N, sc, df, e, h => by
    simp only [chkE] at h
    split at h
    · simp only [Bool.and_eq_true] at h
      obtain ⟨⟨⟨⟨⟨⟨⟨⟨q1, q2⟩, q3⟩, q4⟩, q5⟩, q6⟩, q7⟩, q8⟩, q9⟩ := h
      exact ⟨both_of rfl (okE_lc2 (tgtB_ok q1) (tgtB_ok q2) (cellB_ok q3) q4 (noSet_eq q5) (noSet_eq q6) (chkI_ok it q7) (chkI_ok it2 q8) (chkE_ok a q9).1.1), fun _ _ _ z => by cases z⟩
    · cases h
  | .dix a i, N, sc, df, e, h => by
    simp only [chkE] at h
    split at h
    · simp only [Bool.and_eq_true] at h
      exact ⟨both_of rfl (okE_dix H.zp h.1.1 (chkE_ok a h.1.2).1.1 (chkE_ok i h.2).1.1), fun _ _ _ z => by cases z⟩
    · cases h
theorem chkEs_ok : ∀ (l : CEs) {N : List Str} {sc : Scope} {df : Bool} {es : List Expr}, chkL S N sc df l es = true → OkEs G N sc df l es
  | .nil, N, sc, df, es, h => by
    simp only [chkL] at h
    split at h
    · exact .nil
    · cases h
  | .cons a t, N, sc, df, es, h => by
    simp only [chkL] at h
    split at h
    · simp only [Bool.and_eq_true] at h
      exact .cons (chkE_ok a h.1.2).1.1 (chkEs_ok t h.2)
    · cases h
theorem chkL_ok : ∀ (l : CEs) {N : List Str} {sc : Scope} {df : Bool} {es : List Expr}, chkL S N sc df l es = true → OkL G N sc df l es
  | .nil, N, sc, df, es, h => by
    simp only [chkL] at h
    split at h
    · exact okL_nil
    · cases h
  | .cons a t, N, sc, df, es, h => by
    simp only [chkL] at h
    split at h
    · simp only [Bool.and_eq_true] at h
      exact okL_cons h.1.1 (chkE_ok a h.1.2).1.1 (chkL_ok t h.2)
    · cases h
theorem chkI_ok : ∀ (it : CI) {N : List Str} {sc : Scope} {df : Bool} {tg e : Expr}, chkI S N sc df it tg e = true → OkI G N sc df it tg e
  | .ex a, N, sc, df, tg, e, h => by
    simp only [chkI] at h
    exact okI_ex (chkE_ok a h).1.1
  | .rng1 a, N, sc, df, tg, e, h => by
    simp only [chkI] at h
    split at h
    · simp only [Bool.and_eq_true] at h
      cases of_decide_eq_true h.1.1.1
      have ha := (chkE_ok a h.2).1.1
      exact fun X at_ ρc ow items h2 mo qs ρ hl hr fr σ Hh o R q => WI.okI (wi_rng1 H.blt (glB_ok h.1.1.2) h.1.2 ha at_ h2 hl hr) o q
    · cases h
  | .rng2 a b, N, sc, df, tg, e, h => by
    simp only [chkI] at h
    split at h
    · simp only [Bool.and_eq_true] at h
      cases of_decide_eq_true h.1.1.1.1.1
      have ha := (chkE_ok a h.1.2).1.1
      have hb := (chkE_ok b h.2).1.1
      exact fun X at_ ρc ow items h2 mo qs ρ hl hr fr σ Hh o R q => WI.okI (wi_rng2 H.blt (glB_ok h.1.1.1.1.2) h.1.1.1.2 h.1.1.2 ha hb at_ h2 hl hr) o q
    · cases h
  | .rngD a b, N, sc, df, tg, e, h => by
    simp only [chkI] at h
    split at h
    · simp only [Bool.and_eq_true] at h
      cases of_decide_eq_true h.1.1.1.1.1
      have ha := (chkE_ok a h.1.2).1.1
      have hb := (chkE_ok b h.2).1.1
      exact fun X at_ ρc ow items h2 mo qs ρ hl hr fr σ Hh o R q => WI.okI (wi_rngD H.blt (glB_ok h.1.1.1.1.2) h.1.1.1.2 h.1.1.2 ha hb at_ h2 hl hr) o q
    · cases h
  | .zip a b, N, sc, df, tg, e, h => by
    simp only [chkI] at h
    split at h
    · simp only [Bool.and_eq_true] at h
      cases of_decide_eq_true h.1.1.1.1.1
      have ha := (chkE_ok a h.1.2).1.1
      have hb := (chkE_ok b h.2).1.1
      exact fun X at_ ρc ow items h2 mo qs ρ hl hr fr σ Hh o R q => WI.okI (wi_zipE H.blt (glB_ok h.1.1.1.1.2) h.1.1.1.2 h.1.1.2 ha hb at_ h2 hl hr) o q
    · cases h
  | .zip3 a b c, N, sc, df, tg, e, h => by
    simp only [chkI] at h
    split at h
    · simp only [Bool.and_eq_true] at h
      obtain ⟨⟨⟨⟨⟨⟨⟨q1, q2⟩, q3⟩, q4⟩, q5⟩, q6⟩, q7⟩, q8⟩ := h
      cases of_decide_eq_true q1
      have ha := (chkE_ok a q6).1.1
      have hb := (chkE_ok b q7).1.1
      have hc := (chkE_ok c q8).1.1
      exact fun X at_ ρc ow items h2 mo qs ρ hl hr fr σ Hh o R q => WI.okI (wi_zip3E H.blt (glB_ok q2) q3 q4 q5 ha hb hc at_ h2 hl hr) o q
    · cases h
  | .enum a, N, sc, df, tg, e, h => by
    simp only [chkI] at h
    split at h
    · simp only [Bool.and_eq_true] at h
      cases of_decide_eq_true h.1.1.1
      exact okI_enum (glB_ok h.1.1.2) H.enu h.1.2 (chkE_ok a h.2).1.1
    · cases h
end
end
end EV
namespace EV
open PySem PySem.Spec L2 AL
open PyProof.Rows hiding St
def kindB (sc : Scope) : Bool := match sc.kind with
  | .function => true
  | _ => false
theorem kindB_ok {sc : Scope} (h : kindB sc = true) : sc.kind = .function := by
  unfold kindB at h
  split at h
  · assumption
  · cases h
def lclB (sc : Scope) (x : Str) : Bool := match sc.names.lookup x with
  | some .local => true
  | _ => false
theorem lclB_ok {sc : Scope} {x : Str} (h : lclB sc x = true) : sc.names.lookup x = some .local := by
  unfold lclB at h
  split at h
  · assumption
  · cases h
theorem lclB_no {sc : Scope} {x : Str} (h : lclB sc x = false) : sc.names.lookup x ≠ some .local := by
  intro e
  unfold lclB at h
  rw [e] at h
  cases h
def celB (sc : Scope) (x : Str) : Bool := match sc.names.lookup x with
  | some .cell => true
  | _ => false
theorem celB_ok {sc : Scope} {x : Str} (h : celB sc x = true) : sc.names.lookup x = some .cell := by
  unfold celB at h
  split at h
  · assumption
  · cases h
def isLcE : Expr → Bool
  | .ListComp .. => true
  | .DictComp .. => true
  | _ => false
def lcAt (N : List Str) (sc scope : Scope) (i : Nat) (x : Str) (py pos : Pos) : Bool := kindB sc && atB N i x && lclB sc x && (py.line == pos.line) && !(scope.names.any fun (n, k) => n == x && (k == .local || k == .cell))
def isLc : CE → Bool
  | .lc .. => true
  | .lcf .. => true
  | _ => false
def starFree (es : List Expr) : Bool := !(es.any fun | .Starred .. => true | _ => false)
def chkN (S : Tab) (N : List Str) (sc : Scope) (df : Bool) : CE → Expr → Bool
  | .bin .add a b, .BinOp e .Add f _ => chkE S N sc df a e && chkE S N sc df b f
  | .bin .mul a b, .BinOp e .Mult f _ => chkE S N sc df a e && chkE S N sc df b f
  | _, _ => false
mutual
def chkS (S : Tab) (N : List Str) (sc : Scope) (df : Bool) : CS → Stmt → Bool
  | .fail, _ => true
  | .set i a, s => (match s with
    | .Assign [.Name x _] e _ => atB N i x && locB sc df x && (noComp e || (isLcE e && !lclB sc x)) && chkE S N sc df a e
    | _ => false)
  | .setC i a, s => (match s with
    | .Assign [.Name x py] (.ListComp elt gs scope pos) _ => isLc a && lcAt N sc scope i x py pos && chkE S N sc df a (.ListComp elt gs scope pos)
    | _ => false)
  | .newC i a, s => (match s with
    | .Assign [.Name x py] (.ListComp elt gs scope pos) _ => isLc a && lcAt N sc scope i x py pos && chkE S N sc df a (.ListComp elt gs scope pos)
    | _ => false)
  | .newL i l, s => (match s with
    | .Assign [.Name x _] (.List es _) _ => atB N i x && locB sc df x && chkL S N sc df l es
    | _ => false)
  | .newX i a, s => (match s with
    | .Assign [.Name x _] e _ => atB N i x && locB sc df x && noComp e && chkN S N sc df a e
    | _ => false)
  | .setT js a, s => (match s with
    | .Assign [.Tuple es kk tp] e _ => tgtB N sc df js (.Tuple es kk tp) && !(js.length == 1) && noComp e && noTup e && chkE S N sc df a e
    | _ => false)
  | .par js cs, s => (match s with
    | .Assign [.Tuple [.Name x px, .Name y py] _ _] (.Tuple [e, f] _ _) _ => (match js with
      | [i, j] => atB N i x && atB N j y && !(i == j) && kindB sc && lclB sc x && lclB sc y && !(x == y) && (py.line == px.line) && starFree [e, f] && !([e, f].all (foldedForSure 8)) && !([e, f].all (constantsAlone 8)) && chkL S N sc df cs [e, f]
      | _ => false)
    | .Assign [.Tuple [.Name x px, .Name y py, .Name z pz] kt pt] (.Tuple [e, f, g] _ _) _ => (match js with
      | [i, j, l] => kindB sc && chkL S N sc df cs [e, f, g] && ((atB N i x && atB N j y && atB N l z && !(i == j) && !(i == l) && !(j == l) && lclB sc x && lclB sc y && lclB sc z && !(x == y) && !(x == z) && !(y == z) && (py.line == px.line) && (pz.line == px.line) && starFree [e, f, g] && !([e, f, g].all (foldedForSure 8)) && !([e, f, g].all (constantsAlone 8))) || (tgtB N sc df [i, j, l] (.Tuple [.Name x px, .Name y py, .Name z pz] kt pt) && celB sc x && celB sc y && celB sc z))
      | _ => false)
    | _ => false)
  | .popx i, s => (match s with
    | .Expr (.Call (.Attribute (.Name x _) m p') [] [] p) _ => decide (m = ("pop" : Str)) && atB N i x && visB sc x && nmB x && (p'.endLine == p.line)
    | _ => false)
  | .popy k i, s => (match s with
    | .Assign [.Name y _] (.Call (.Attribute (.Name x _) m p') [] [] p) _ => decide (m = ("pop" : Str)) && atB N k y && locB sc df y && atB N i x && visB sc x && nmB x && (p'.endLine == p.line)
    | _ => false)
  | .popT js i, s => (match s with
    | .Assign [.Tuple es kk tp] (.Call (.Attribute (.Name x _) m p') [] [] p) _ => decide (m = ("pop" : Str)) && tgtB N sc df js (.Tuple es kk tp) && !(js.length == 1) && atB N i x && visB sc x && nmB x && (p'.endLine == p.line)
    | _ => false)
  | .popI k i c ci a, s => (match s with
    | .Assign [.Name y _] (.IfExp t (.Subscript (.Call (.Attribute (.Name x _) m p') [] [] p) (.Constant (.int n) _ _) _) e _) _ => decide (m = ("pop" : Str)) && decide (n = ((ci : Nat) : Int)) && atB N k y && locB sc df y && atB N i x && visB sc x && nmB x && (p'.endLine == p.line) && tOk t && chkE S N sc df c t && chkE S N sc df a e
    | _ => false)
  | .set2 i j a, s => (match s with
    | .Assign [.Name x _, .Name y _] (.Constant k kk p) _ => atB N i x && atB N j y && lclB sc x && lclB sc y && chkE S N sc df a (.Constant k kk p)
    | _ => false)
  | .store i b a, s => (match s with
    | .Assign [.Subscript (.Name x _) f _] e _ => atB N i x && visB sc x && nmB x && noComp e && storeIx f && chkE S N sc df a e && chkE S N sc df b f
    | _ => false)
  | .app i a, s => (match s with
    | .Expr (.Call (.Attribute (.Name x _) m p') [e] [] p) _ => decide (m = ("append" : Str)) && atB N i x && visB sc x && nmB x && (p'.endLine == p.line) && notStar e && chkE S N sc df a e
    | _ => false)
  | .ext i a, s => (match s with
    | .Expr (.Call (.Attribute (.Name x _) m p') [e] [] p) _ => decide (m = ("extend" : Str)) && atB N i x && visB sc x && nmB x && (p'.endLine == p.line) && notStar e && chkE S N sc df a e
    | _ => false)
  | .pop k i a, s => (match s with
    | .Assign [.Name y _] (.Call (.Attribute (.Name x _) m p') [e] [] p) _ => decide (m = ("pop" : Str)) && atB N k y && locB sc df y && atB N i x && visB sc x && nmB x && (p'.endLine == p.line) && notStar e && chkE S N sc df a e
    | _ => false)
  | .aug i a, s => (match s with
    | .AugAssign (.Name x _) .Add e _ => atB N i x && locB sc df x && chkE S N sc df a e
    | _ => false)
  | .ex a, s => (match s with
    | .Expr e _ => noComp e && chkE S N sc df a e
    | _ => false)
  | .ife c a b, s => (match s with
    | .If t as bs _ => tOk t && chkE S N sc df c t && chkSs S N sc df a as && chkSs S N sc df b bs
    | _ => false)
  | .fors js it b, s => (match s with
    | .For tg iter bs [] _ => tgtB N sc df js tg && noSet iter && chkI S N sc df it tg iter && chkSs S N sc df b bs
    | _ => false)
  | .whl c b, s => (match s with
    | .While t bs [] _ => tOk t && chkE S N sc df c t && chkSs S N sc df b bs
    | _ => false)
  | .ret a, s => (match s with
    | .Return (some e) _ => chkE S N sc df a e
    | _ => false)
  | .retT l, s => (match s with
    | .Return (some (.Tuple es _ _)) _ => chkL S N sc df l es
    | _ => false)
  | .pass, s => (match s with
    | .Pass _ => true
    | _ => false)
  | .brk, s => (match s with
    | .Break _ => true
    | _ => false)
  | .cnt, s => (match s with
    | .Continue _ => true
    | _ => false)
def chkSs (S : Tab) (N : List Str) (sc : Scope) (df : Bool) : CSs → List Stmt → Bool
  | .nil, ss => (match ss with
    | [] => true
    | _ => false)
  | .cons a t, ss => (match ss with
    | s :: ss => chkS S N sc df a s && chkSs S N sc df t ss
    | _ => false)
  | .frz _ t, ss => chkSs S N sc df t ss
end
section
variable {G : Gx} {F : Nat} {S : Tab} (H : TabOk G S)
include H
theorem chkN_ok {N : List Str} {sc : Scope} {df : Bool} {c : CE} {e : Expr} (h : chkN S N sc df c e = true) : OkN G N sc df c e := by
  unfold chkN at h
  split at h
  · rw [Bool.and_eq_true] at h
    exact okN_add (chkE_ok H _ h.1).1.1 (chkE_ok H _ h.2).1.1
  · rw [Bool.and_eq_true] at h
    exact okN_mul (chkE_ok H _ h.1).1.1 (chkE_ok H _ h.2).1.1
  · cases h
theorem chkJ_ok : ∀ (it : CI) {N : List Str} {sc : Scope} {df : Bool} {tg e : Expr}, chkI S N sc df it tg e = true → OkJ G N sc df it tg e
  | .ex a, N, sc, df, tg, e, h => by
    simp only [chkI] at h
    exact okJ_ex (chkE_ok H a h).1.1
  | .rng1 a, N, sc, df, tg, e, h => by
    simp only [chkI] at h
    split at h
    · simp only [Bool.and_eq_true] at h
      cases of_decide_eq_true h.1.1.1
      exact fun X at_ ρc ow items h2 mo qs ρ hl hr => wi_rng1 H.blt (glB_ok h.1.1.2) h.1.2 (chkE_ok H a h.2).1.1 at_ h2 hl hr
    · cases h
  | .rng2 a b, N, sc, df, tg, e, h => by
    simp only [chkI] at h
    split at h
    · simp only [Bool.and_eq_true] at h
      cases of_decide_eq_true h.1.1.1.1.1
      exact fun X at_ ρc ow items h2 mo qs ρ hl hr => wi_rng2 H.blt (glB_ok h.1.1.1.1.2) h.1.1.1.2 h.1.1.2 (chkE_ok H a h.1.2).1.1 (chkE_ok H b h.2).1.1 at_ h2 hl hr
    · cases h
  | .rngD a b, N, sc, df, tg, e, h => by
    simp only [chkI] at h
    split at h
    · simp only [Bool.and_eq_true] at h
      cases of_decide_eq_true h.1.1.1.1.1
      exact fun X at_ ρc ow items h2 mo qs ρ hl hr => wi_rngD H.blt (glB_ok h.1.1.1.1.2) h.1.1.1.2 h.1.1.2 (chkE_ok H a h.1.2).1.1 (chkE_ok H b h.2).1.1 at_ h2 hl hr
    · cases h
  | .zip a b, N, sc, df, tg, e, h => by
    simp only [chkI] at h
    split at h
    · simp only [Bool.and_eq_true] at h
      cases of_decide_eq_true h.1.1.1.1.1
      exact fun X at_ ρc ow items h2 mo qs ρ hl hr => wi_zipE H.blt (glB_ok h.1.1.1.1.2) h.1.1.1.2 h.1.1.2 (chkE_ok H a h.1.2).1.1 (chkE_ok H b h.2).1.1 at_ h2 hl hr
    · cases h
  | .zip3 a b c, N, sc, df, tg, e, h => by
    simp only [chkI] at h
    split at h
    · simp only [Bool.and_eq_true] at h
      obtain ⟨⟨⟨⟨⟨⟨⟨q1, q2⟩, q3⟩, q4⟩, q5⟩, q6⟩, q7⟩, q8⟩ := h
      cases of_decide_eq_true q1
      have ha := (chkE_ok H a q6).1.1
      have hb := (chkE_ok H b q7).1.1
      have hc := (chkE_ok H c q8).1.1
      exact fun X at_ ρc ow items h2 mo qs ρ hl hr => wi_zip3E H.blt (glB_ok q2) q3 q4 q5 ha hb hc at_ h2 hl hr
    · cases h
  | .enum a, N, sc, df, tg, e, h => by
    simp only [chkI] at h
    split at h
    · simp only [Bool.and_eq_true] at h
      cases of_decide_eq_true h.1.1.1
      exact okJ_enum (glB_ok h.1.1.2) H.enu h.1.2 (chkE_ok H a h.2).1.1
    · cases h
theorem lc_both {N : List Str} {sc : Scope} {df : Bool} {a : CE} {elt : Expr} {gs : List Comprehension} {scope : Scope} {pos : Pos} (hi : isLc a = true) (h : chkE S N sc df a (.ListComp elt gs scope pos) = true) :
    ∃ tg iter ifs, gs = [⟨tg, iter, ifs, 0⟩] ∧ ∀ {X : Cx} (at_ : G.At N sc df X) {ρc : Ev} {ow : Own} {v : CV} (h : evE G.T a ρc ow = some v) {mo : Mem} {qs : List Addr} {ρ : Rho} (hl : qs.length = ow.length) (hr : RepE G.Z mo qs ρc ρ),
      ∃ us, v = .p (.lst us) ∧ LcRun X N sc scope elt tg iter ifs pos ρ (mo ++ memW G.Z qs ow) (absPs G.Z us) := by
  cases a with
  | lc js it a =>
    simp only [chkE] at h
    split at h
    · rename_i elt' tg iter scope' pos' he
      cases he
      simp only [Bool.and_eq_true] at h
      exact ⟨tg, iter, [], rfl, fun {X} at_ {ρc ow v} h2 {mo qs ρ} hl hr => lc_run (tgtB_ok h.1.1.1.1.1) (cellB_ok h.1.1.1.1.2) h.1.1.1.2 (noSet_eq h.1.1.2) (chkI_ok H it h.1.2) (chkE_ok H a h.2).1.1 at_ h2 hl hr⟩
    · cases h
  | lcf js it c a =>
    simp only [chkE] at h
    split at h
    · rename_i elt' tg iter t scope' pos' he
      cases he
      simp only [Bool.and_eq_true] at h
      exact ⟨tg, iter, [t], rfl, fun {X} at_ {ρc ow v} h2 {mo qs ρ} hl hr => lcf_run (tgtB_ok h.1.1.1.1.1.1.1) (cellB_ok h.1.1.1.1.1.1.2) h.1.1.1.1.1.2 (noSet_eq h.1.1.1.1.2) (chkI_ok H it h.1.1.1.2) ((chkE_ok H c h.1.2).1.2 h.1.1.2) (chkE_ok H a h.2).1.1 at_ h2 hl hr⟩
    · cases h
  | _ => cases hi
mutual
theorem chkS_ok : ∀ (c : CS) {N : List Str} {sc : Scope} {df : Bool} {s : Stmt}, chkS S N sc df c s = true → OkS G F N sc df c s
  | .fail, N, sc, df, s, _ => okS_fail
  | .set i a, N, sc, df, s, h => by
    simp only [chkS] at h
    split at h
    · rename_i e _
      simp only [Bool.and_eq_true, Bool.or_eq_true] at h
      rcases h.1.2 with hc | hc
      · exact okS_set (atB_ok h.1.1.1) (locB_ok h.1.1.2) hc (chkE_ok H a h.2).1.1
      · cases e with
        | ListComp elt gs scope p => exact okS_setL (atB_ok h.1.1.1) (locB_ok h.1.1.2) (lclB_no (by simpa using hc.2)) (chkE_ok H a h.2).1.1
        | DictComp kx vx gs scope p => exact okS_setD (atB_ok h.1.1.1) (locB_ok h.1.1.2) (lclB_no (by simpa using hc.2)) (chkE_ok H a h.2).1.1
        | _ => exact absurd hc.1 (by simp [isLcE])
    · cases h
  | .setC i a, N, sc, df, s, h => by
    simp only [chkS] at h
    split at h
    · simp only [Bool.and_eq_true, lcAt] at h
      obtain ⟨tg, iter, ifs, rfl, hrun⟩ := lc_both H h.1.1 h.2
      intro X at_ ρc ow out h2 mo qs ρ hl hr E hE
      simp only [evS] at h2
      split at h2
      · rename_i v hv
        cases h2
        obtain ⟨us, rfl, r⟩ := hrun at_ hv hl hr
        exact setC_value at_ hl hr r (kindB_ok h.1.2.1.1.1.1) (atB_ok h.1.2.1.1.1.2) (lclB_ok h.1.2.1.1.2) h.1.2.1.2 (by simpa using h.1.2.2) hE
      · cases h2
    · cases h
  | .newC i a, N, sc, df, s, h => by
    simp only [chkS] at h
    split at h
    · simp only [Bool.and_eq_true, lcAt] at h
      obtain ⟨tg, iter, ifs, rfl, hrun⟩ := lc_both H h.1.1 h.2
      intro X at_ ρc ow out h2 mo qs ρ hl hr E hE
      simp only [evS] at h2
      split at h2
      · rename_i v hv
        cases h2
        obtain ⟨us, e1, r⟩ := hrun at_ hv hl hr
        cases e1
        exact setC_cell at_ hl hr r (kindB_ok h.1.2.1.1.1.1) (atB_ok h.1.2.1.1.1.2) (lclB_ok h.1.2.1.1.2) h.1.2.1.2 (by simpa using h.1.2.2) hE
      · cases h2
    · cases h
  | .newL i l, N, sc, df, s, h => by
    simp only [chkS] at h
    split at h
    · simp only [Bool.and_eq_true] at h
      exact okS_newL (atB_ok h.1.1) (locB_ok h.1.2) (chkL_ok H l h.2)
    · cases h
  | .newX i a, N, sc, df, s, h => by
    simp only [chkS] at h
    split at h
    · simp only [Bool.and_eq_true] at h
      exact okS_newX (atB_ok h.1.1.1) (locB_ok h.1.1.2) h.1.2 (chkN_ok H h.2)
    · cases h
  | .setT js a, N, sc, df, s, h => by
    simp only [chkS] at h
    split at h
    · simp only [Bool.and_eq_true] at h
      refine okS_setT (tgtB_ok h.1.1.1.1) (fun j e => ?_) h.1.1.2 h.1.2 (chkE_ok H a h.2).1.1
      subst e
      simp at h
    · cases h
  | .par js l, N, sc, df, s, h => by
    simp only [chkS] at h
    split at h
    · split at h
      · simp only [Bool.and_eq_true, starFree] at h
        obtain ⟨⟨⟨⟨⟨⟨⟨⟨⟨⟨⟨h1, h2⟩, h3⟩, h4⟩, h5⟩, h6⟩, h7⟩, h8⟩, h9⟩, h10⟩, h11⟩, h12⟩ := h
        exact okS_par2 (atB_ok h1) (atB_ok h2) (by simpa using h3) (kindB_ok h4) (lclB_ok h5) (lclB_ok h6) (by simpa using h7) h8 ((Bool.not_eq_true' _).mp h9) ((Bool.not_eq_true' _).mp h10) ((Bool.not_eq_true' _).mp h11) (chkL_ok H l h12)
      · cases h
    · split at h
      · rw [Bool.and_eq_true, Bool.and_eq_true, Bool.or_eq_true] at h
        obtain ⟨⟨hk, hL⟩, h | h⟩ := h
        · simp only [Bool.and_eq_true, starFree] at h
          obtain ⟨⟨⟨⟨⟨⟨⟨⟨⟨⟨⟨⟨⟨⟨⟨⟨h1, h2⟩, h3⟩, h4⟩, h5⟩, h6⟩, h7⟩, h8⟩, h9⟩, h10⟩, h11⟩, h12⟩, h13⟩, h14⟩, h15⟩, h16⟩, h17⟩ := h
          exact okS_par3 (atB_ok h1) (atB_ok h2) (atB_ok h3) (by simpa using h4) (by simpa using h5) (by simpa using h6) (kindB_ok hk) (lclB_ok h7) (lclB_ok h8) (lclB_ok h9) (by simpa using h10) (by simpa using h11) (by simpa using h12) h13 h14 ((Bool.not_eq_true' _).mp h15) ((Bool.not_eq_true' _).mp h16) ((Bool.not_eq_true' _).mp h17) (chkL_ok H l hL)
        · simp only [Bool.and_eq_true] at h
          obtain ⟨⟨⟨h1, h2⟩, h3⟩, h4⟩ := h
          exact okS_par3c (tgtB_ok h1) (kindB_ok hk) (celB_ok h2) (celB_ok h3) (celB_ok h4) (chkL_ok H l hL)
      · cases h
    · cases h
  | .popx i, N, sc, df, s, h => by
    simp only [chkS] at h
    split at h
    · simp only [Bool.and_eq_true] at h
      obtain ⟨⟨⟨⟨h0, h1⟩, h2⟩, h3⟩, h4⟩ := h
      cases of_decide_eq_true h0
      exact okS_popx (atB_ok h1) (visB_ok h2) (nmB_ok h3).1 (nmB_ok h3).2 h4
    · cases h
  | .popy k i, N, sc, df, s, h => by
    simp only [chkS] at h
    split at h
    · simp only [Bool.and_eq_true] at h
      obtain ⟨⟨⟨⟨⟨⟨h0, h8⟩, h9⟩, h1⟩, h2⟩, h3⟩, h4⟩ := h
      cases of_decide_eq_true h0
      exact okS_popy (atB_ok h1) (visB_ok h2) (nmB_ok h3).1 (nmB_ok h3).2 h4 (atB_ok h8) (locB_ok h9)
    · cases h
  | .popT js i, N, sc, df, s, h => by
    simp only [chkS] at h
    split at h
    · simp only [Bool.and_eq_true] at h
      obtain ⟨⟨⟨⟨⟨⟨h0, h8⟩, h9⟩, h1⟩, h2⟩, h3⟩, h4⟩ := h
      cases of_decide_eq_true h0
      refine okS_popT (atB_ok h1) (visB_ok h2) (nmB_ok h3).1 (nmB_ok h3).2 h4 (tgtB_ok h8) (fun j e => ?_)
      subst e
      simp at h9
    · cases h
  | .popI k i c ci a, N, sc, df, s, h => by
    simp only [chkS] at h
    split at h
    · simp only [Bool.and_eq_true] at h
      obtain ⟨⟨⟨⟨⟨⟨⟨⟨⟨⟨h0, h5⟩, h8⟩, h9⟩, h1⟩, h2⟩, h3⟩, h4⟩, h6⟩, h7⟩, h10⟩ := h
      cases of_decide_eq_true h0
      cases of_decide_eq_true h5
      exact okS_popI (atB_ok h1) (visB_ok h2) (nmB_ok h3).1 (nmB_ok h3).2 h4 (atB_ok h8) (locB_ok h9) ((chkE_ok H c h7).1.2 h6) (chkE_ok H a h10).1.1
    · cases h
  | .set2 i j a, N, sc, df, s, h => by
    simp only [chkS] at h
    split at h
    · simp only [Bool.and_eq_true] at h
      obtain ⟨⟨⟨⟨h1, h2⟩, h3⟩, h4⟩, h5⟩ := h
      exact okS_set2 (atB_ok h1) (atB_ok h2) (lclB_ok h3) (lclB_ok h4) (chkE_ok H a h5).1.1
    · cases h
  | .store i b a, N, sc, df, s, h => by
    simp only [chkS] at h
    split at h
    · simp only [Bool.and_eq_true] at h
      obtain ⟨⟨⟨⟨⟨⟨h1, h2⟩, h3⟩, h4⟩, h5⟩, h6⟩, h7⟩ := h
      exact okS_store (atB_ok h1) (visB_ok h2) (nmB_ok h3).1 (nmB_ok h3).2 h4 h5 (chkE_ok H a h6).1.1 (chkE_ok H b h7).1.1
    · cases h
  | .app i a, N, sc, df, s, h => by
    simp only [chkS] at h
    split at h
    · simp only [Bool.and_eq_true] at h
      obtain ⟨⟨⟨⟨⟨⟨h0, h1⟩, h2⟩, h3⟩, h4⟩, h5⟩, h6⟩ := h
      cases of_decide_eq_true h0
      exact okS_app (atB_ok h1) (visB_ok h2) (nmB_ok h3).1 (nmB_ok h3).2 h4 h5 (chkE_ok H a h6).1.1
    · cases h
  | .ext i a, N, sc, df, s, h => by
    simp only [chkS] at h
    split at h
    · simp only [Bool.and_eq_true] at h
      obtain ⟨⟨⟨⟨⟨⟨h0, h1⟩, h2⟩, h3⟩, h4⟩, h5⟩, h6⟩ := h
      cases of_decide_eq_true h0
      exact okS_ext (atB_ok h1) (visB_ok h2) (nmB_ok h3).1 (nmB_ok h3).2 h4 h5 (chkE_ok H a h6).1.1
    · cases h
  | .pop k i a, N, sc, df, s, h => by
    simp only [chkS] at h
    split at h
    · simp only [Bool.and_eq_true] at h
      obtain ⟨⟨⟨⟨⟨⟨⟨⟨h0, h8⟩, h9⟩, h1⟩, h2⟩, h3⟩, h4⟩, h5⟩, h6⟩ := h
      cases of_decide_eq_true h0
      exact okS_pop (atB_ok h8) (locB_ok h9) (atB_ok h1) (visB_ok h2) (nmB_ok h3).1 (nmB_ok h3).2 h4 h5 (chkE_ok H a h6).1.1
    · cases h
  | .aug i a, N, sc, df, s, h => by
    simp only [chkS] at h
    split at h
    · simp only [Bool.and_eq_true] at h
      exact okS_aug (atB_ok h.1.1) (locB_ok h.1.2) (chkE_ok H a h.2).1.1
    · cases h
  | .ex a, N, sc, df, s, h => by
    simp only [chkS] at h
    split at h
    · simp only [Bool.and_eq_true] at h
      exact okS_ex h.1 (chkE_ok H a h.2).1.1
    · cases h
  | .ife c a b, N, sc, df, s, h => by
    simp only [chkS] at h
    split at h
    · simp only [Bool.and_eq_true] at h
      exact okS_ife ((chkE_ok H c h.1.1.2).1.2 h.1.1.1) (chkSs_ok a h.1.2) (chkSs_ok b h.2)
    · cases h
  | .fors js it b, N, sc, df, s, h => by
    simp only [chkS] at h
    split at h
    · simp only [Bool.and_eq_true] at h
      exact okS_fors (tgtB_ok h.1.1.1) (noSet_eq h.1.1.2) (chkJ_ok H it h.1.2) (chkSs_ok b h.2)
    · cases h
  | .whl c b, N, sc, df, s, h => by
    simp only [chkS] at h
    split at h
    · simp only [Bool.and_eq_true] at h
      exact okS_whl ((chkE_ok H c h.1.2).1.2 h.1.1) (chkSs_ok b h.2)
    · cases h
  | .ret a, N, sc, df, s, h => by
    simp only [chkS] at h
    split at h
    · exact okS_ret (chkE_ok H a h).1.1
    · cases h
  | .retT l, N, sc, df, s, h => by
    simp only [chkS] at h
    split at h
    · exact okS_retT (chkL_ok H l h)
    · cases h
  | .pass, N, sc, df, s, h => by
    simp only [chkS] at h
    split at h
    · exact okS_pass
    · cases h
  | .brk, N, sc, df, s, h => by
    simp only [chkS] at h
    split at h
    · exact okS_brk
    · cases h
  | .cnt, N, sc, df, s, h => by
    simp only [chkS] at h
    split at h
    · exact okS_cnt
    · cases h
theorem chkSs_ok : ∀ (c : CSs) {N : List Str} {sc : Scope} {df : Bool} {s : List Stmt}, chkSs S N sc df c s = true → OkSs G F N sc df c s
  | .nil, N, sc, df, s, h => by
    simp only [chkSs] at h
    split at h
    · exact okSs_nil
    · cases h
  | .cons a t, N, sc, df, s, h => by
    simp only [chkSs] at h
    split at h
    · simp only [Bool.and_eq_true] at h
      exact okSs_cons (chkS_ok a h.1) (chkSs_ok t h.2)
    · cases h
  | .frz i t, N, sc, df, s, h => by
    simp only [chkSs] at h
    exact okSs_frz (chkSs_ok t h)
end
end
end EV
namespace EV
open PySem PySem.Spec L2 AL
open PyProof.Rows hiding St
/-- where a def lies, what it is, its parameters -/
abbrev Who := Addr × FuncData × List Str
/-- what is known of a program, def by def -/
structure Prog where
  P : Program
  w : World
  K : PySem.W.Frag
  mg : Str → Option Value
  base : Heap
  Z : Cls
  S : Tab
  tab : List Def
  who : Nat → Who
  make : Nat → List PV → Option (List PV)
  glob : List PV
  F : Nat
def Prog.gx (A : Prog) (d : Nat) (cf : Nat → List CV → Option PV) : Gx := ⟨A.P, A.w, A.K, A.mg, A.base, 14 + 3 * d, A.Z, ⟨cf, A.make, A.glob⟩⟩
/-- the def at t keeps a contract -/
def FnB (A : Prog) (j : Nat) (t : Who) (C : CT) : Prop := FnOk A.P A.w A.K A.mg A.base CX0 j t.1 t.2.1 t.2.2 (spOf A.K C)
theorem FnB.mono {A : Prog} {i j : Nat} {t : Who} {C : CT} (h : FnB A i t C) (hj : i ≤ j) : FnB A j t C := FnOk.mono h hj
/-- a contract whose every case is known -/
theorem FnB.of {A : Prog} {j : Nat} {t : Who} {C : CT} (h : ∀ As m Kt, C As m Kt → ∃ C', FnB A j t C' ∧ C' As m Kt) : FnB A j t C where
  len := fun vs H Q E ⟨fr, As, m, Kt, hC, r⟩ => by
    obtain ⟨C', F, hC'⟩ := h As m Kt hC
    exact F.len vs H Q E ⟨fr, As, m, Kt, hC', r⟩
  run := fun B outer s H args us vs Q E hr he hb hv ⟨fr, As, m, Kt, hC, r⟩ => by
    obtain ⟨C', F, hC'⟩ := h As m Kt hC
    exact F.run B outer s H args us vs Q E hr he hb hv ⟨fr, As, m, Kt, hC', r⟩
structure FnIs (A : Prog) (t : Who) (b : Fn) : Prop where
  run : ∃ N st x qual, Fun A.K x qual st t.1 t.2.1 ∧ FnScope N t.2.2 (defScope st) ∧ b.ns = N.length ∧ b.ps = t.2.2.length ∧ chkSs A.S N (defScope st) true b.body (defBody st) = true
structure Good (A : Prog) (t : Who) (d : Def) : Prop where
  kp : PySem.W.keepIn A.K (.ref t.1) = true
  bd : Binds A.K t.2.1 t.2.2 []
  ok : (∃ g, d = .nat g ∧ FnB A 12 t (C_call A.Z g)) ∨ ∃ b, d = .fn b ∧ FnIs A t b
structure ProgOk (A : Prog) : Prop where
  defs : ∀ (n : Nat) d, A.tab[n]? = some d → Good A (A.who n) d
  at_ : ∀ n, A.Z.fa n = (A.who n).1
  nm : ∀ (n : Nat) x, A.S.fnm[n]? = some x → A.mg x = some (.ref (A.who n).1)
  mt : ∀ c x n, (c, x, n) ∈ A.S.mth → PySem.W.findIn A.K (.ref (A.Z.at_ c)) x = some (some (.ref (A.who n).1)) ∧ PySem.W.isFn A.K (.ref (A.who n).1) = true ∧ n < A.tab.length
  kw : ∀ n x ks ord, (n, x, ks, ord) ∈ A.S.kws → A.mg x = some (.ref (A.who n).1) ∧ n < A.tab.length ∧ KBinds A.K (A.who n).2.1 (A.who n).2.2 ks (gK .none ord) (gK .non ord)
  gl : ∀ (n : Nat) x v, A.S.gnm[n]? = some x → A.glob[n]? = some v → ∃ (u : V) (y : Value), A.mg x = some y ∧ RelV u y ∧ ∀ M H, (absP A.Z v).p A.K M H u
  mkc : ∀ (c : Nat) x, A.S.cnm[c]? = some x → ∃ j R, j + 1 ≤ 14 ∧ ClsC A.P A.w A.K A.mg A.base j x (A.Z.at_ c) R ∧ ∀ ps fs, A.make c ps = some fs → ∀ Kf, Kf ((A.Z.fl c).zip (absPs A.Z fs)) → R (absPs A.Z ps) Kf
  cl : ∀ (c : Nat) fls, A.S.cfl[c]? = some fls → L2.Cls A.K (A.Z.at_ c) ∧ (∀ (k : Nat) fl, fls[k]? = some fl → NoAttr A.K (A.Z.at_ c) fl) ∧ fls.Nodup ∧ A.Z.fl c = fls
  blt : Blt A.mg
  enu : A.mg ("enumerate" : Str) = none
  xn : ∀ k x, (k, x) ∈ A.S.xnm → XOk A.mg k x
  zp : A.Z.P = A.P ∧ A.Z.w = A.w
  len : A.S.fnm.length ≤ A.tab.length
/-- what calls give, at a level -/
def Calls (A : Prog) (d : Nat) (cf : Nat → List CV → Option PV) : Prop := (∀ n, n < A.tab.length → FnB A (12 + 3 * d) (A.who n) (C_call A.Z (cf n))) ∧ ∀ n, A.tab.length ≤ n → cf n = fun _ => none
theorem tab_of {A : Prog} (h : ProgOk A) {d : Nat} {cf : Nat → List CV → Option PV} (hc : Calls A d cf) : TabOk (A.gx d cf) A.S where
  fn := fun n x hn => by
    have hlt : n < A.tab.length := Nat.lt_of_lt_of_le (List.getElem?_eq_some_iff.mp hn).1 h.len
    have g := h.defs n _ (List.getElem?_eq_getElem hlt)
    exact ⟨12 + 3 * d, by show _ ≤ 14 + 3 * d; omega, (A.who n).1, _, _, hc.1 n hlt, h.nm n x hn, g.kp, g.bd⟩
  gl := fun n x v h1 h2 => by
    obtain ⟨u, y, h3, h4, h5⟩ := h.gl n x v h1 h2
    exact ⟨u, y, h3, h4, h5⟩
  mkc := fun c x hx => by
    obtain ⟨j, R, h1, h2, h3⟩ := h.mkc c x hx
    exact ⟨j, R, Nat.le_trans h1 (Nat.le_add_right _ _), h2, h3⟩
  cl := fun c fls hx => by
    obtain ⟨h1, h2, h3, h4⟩ := h.cl c fls hx
    subst h4
    exact ⟨⟨h1, h2, h3⟩, rfl⟩
  blt := h.blt
  enu := h.enu
  xn := h.xn
  zp := h.zp
  strm := fun c n hm => by
    obtain ⟨h1, h2, h3⟩ := h.mt c _ n hm
    have g := h.defs n _ (List.getElem?_eq_getElem h3)
    exact ⟨12 + 3 * d, (A.who n).1, _, _, h1, h2, g.bd, hc.1 n h3, by show _ ≤ 14 + 3 * d; omega⟩
  kwo := fun n x ks ord hm => by
    obtain ⟨h1, h2, h3⟩ := h.kw n x ks ord hm
    have g := h.defs n _ (List.getElem?_eq_getElem h2)
    exact ⟨12 + 3 * d, (A.who n).1, _, _, by show _ ≤ 14 + 3 * d; omega, hc.1 n h2, h1, g.kp, h3⟩
  held := fun n hne => by
    by_cases hlt : n < A.tab.length
    · have g := h.defs n _ (List.getElem?_eq_getElem hlt)
      have e : (A.gx d cf).Z.fa n = (A.who n).1 := h.at_ n
      refine ⟨12 + 3 * d, _, _, by show _ ≤ 14 + 3 * d; omega, ?_, ?_, g.bd⟩
      · rw [e]; exact hc.1 n hlt
      · rw [e]; exact g.kp
    · exact absurd (hc.2 n (Nat.le_of_not_lt hlt)) hne
/-- one call deeper -/
def stepC (A : Prog) (cf : Nat → List CV → Option PV) (n : Nat) (vs : List CV) : Option PV := match A.tab[n]? with
  | none => none
  | some (.nat g) => g vs
  | some (.fn b) => runFn ⟨cf, A.make, A.glob⟩ A.F b vs
theorem step_ok {A : Prog} (h : ProgOk A) {d : Nat} {cf : Nat → List CV → Option PV} (hc : Calls A d cf) : Calls A (d + 1) (stepC A cf) := by
  refine ⟨fun n hlt => ?_, fun n hge => ?_⟩
  · have hg := List.getElem?_eq_getElem hlt
    rcases (h.defs n _ hg).ok with ⟨g, ht, hF⟩ | ⟨b, ht, hb⟩
    · have e : stepC A cf n = g := by
        funext vs
        unfold stepC
        rw [hg, ht]
      rw [e]
      exact hF.mono (by omega)
    · have e : stepC A cf n = fun vs => runFn ⟨cf, A.make, A.glob⟩ A.F b vs := by
        funext vs
        unfold stepC
        rw [hg, ht]
      rw [e]
      obtain ⟨N, st, x, qual, hf, hsc, h1, h2, h3⟩ := hb.run
      exact (fn_okA (G := A.gx d cf) (F := A.F) (b := b) hf hsc h1 h2 (chkSs_ok (tab_of h hc) b.body h3)).mono (by show 14 + 3 * d + 1 ≤ _; omega)
  · funext vs
    unfold stepC
    rw [List.getElem?_eq_none_iff.mpr hge]
theorem none_ok {A : Prog} (h : ProgOk A) : Calls A 0 fun _ _ => none := by
  have hv : ∀ {As m Kt}, ¬ C_call A.Z (fun _ => none) As m Kt := fun ⟨vs, v, _, e, _⟩ => by cases e
  refine ⟨fun n hlt => .of fun As m Kt hC => (hv hC).elim, fun _ _ => rfl⟩
/-! ### calls that are known by heart -/
structure Fact where
  d : Nat
  n : Nat
  vs : List CV
  v : PV
mutual
def eqV : PV → PV → Bool
  | .int i, .int j => decide (i = j)
  | .bl a, .bl b => a == b
  | .non, .non => true
  | .str x, .str y => decide (x = y)
  | .tup a, .tup b => eqVs a b
  | .lst a, .lst b => eqVs a b
  | .ins c a, .ins d b => Nat.beq c d && eqVs a b
  | .fn a, .fn b => Nat.beq a b
  | .tun a, .tun b => eqVs a b
  | .dct k a, .dct l b => decide (k = l) && eqVs a b
  | _, _ => false
def eqVs : List PV → List PV → Bool
  | [], [] => true
  | a :: as, b :: bs => eqV a b && eqVs as bs
  | _, _ => false
end
mutual
theorem eqV_eq : ∀ (a b : PV), eqV a b = true → a = b
  | .int i, b, h => by cases b <;> simp [eqV] at h <;> rw [h]
  | .bl i, b, h => by cases b <;> simp [eqV] at h <;> rw [h]
  | .non, b, h => by cases b <;> simp [eqV] at h <;> rfl
  | .str i, b, h => by cases b <;> simp [eqV] at h <;> rw [h]
  | .fn i, b, h => by cases b <;> simp [eqV] at h <;> rw [h]
  | .tup a, b, h => by cases b <;> simp [eqV] at h <;> rw [eqVs_eq _ _ h]
  | .lst a, b, h => by cases b <;> simp [eqV] at h <;> rw [eqVs_eq _ _ h]
  | .tun a, b, h => by cases b <;> simp [eqV] at h <;> rw [eqVs_eq _ _ h]
  | .ins c a, b, h => by cases b <;> simp [eqV] at h <;> rw [h.1, eqVs_eq _ _ h.2]
  | .dct c a, b, h => by cases b <;> simp [eqV] at h <;> rw [h.1, eqVs_eq _ _ h.2]
theorem eqVs_eq : ∀ (a b : List PV), eqVs a b = true → a = b
  | [], b, h => by cases b <;> simp [eqVs] at h <;> rfl
  | x :: xs, b, h => by
    cases b with
    | nil => simp [eqVs] at h
    | cons y ys =>
      simp only [eqVs, Bool.and_eq_true] at h
      rw [eqV_eq _ _ h.1, eqVs_eq _ _ h.2]
end
def eqC : CV → CV → Bool
  | .p a, .p b => eqV a b
  | .o a, .o b => eqVs a b
  | _, _ => false
def eqCs : List CV → List CV → Bool
  | [], [] => true
  | a :: as, b :: bs => eqC a b && eqCs as bs
  | _, _ => false
theorem eqC_eq : ∀ {a b : CV}, eqC a b = true → a = b
  | .p a, b, h => by cases b <;> simp [eqC] at h <;> rw [eqV_eq _ _ h]
  | .o a, b, h => by cases b <;> simp [eqC] at h <;> rw [eqVs_eq _ _ h]
  | .r a, b, h => by cases b <;> simp [eqC] at h
theorem eqCs_eq : ∀ {a b : List CV}, eqCs a b = true → a = b
  | [], b, h => by cases b <;> simp [eqCs] at h <;> rfl
  | x :: xs, b, h => by
    cases b with
    | nil => simp [eqCs] at h
    | cons y ys =>
      simp only [eqCs, Bool.and_eq_true] at h
      rw [eqC_eq h.1, eqCs_eq h.2]
/-- the known answer of a call, at most so deep -/
def orc (d n : Nat) (vs : List CV) : List Fact → Option PV
  | [] => none
  | f :: r => if Nat.beq f.n n && Nat.ble f.d d && eqCs f.vs vs then some f.v else orc d n vs r
theorem orc_mem {d n : Nat} {vs : List CV} {v : PV} : ∀ {fs : List Fact}, orc d n vs fs = some v → ∃ f ∈ fs, f.n = n ∧ f.d ≤ d ∧ f.vs = vs ∧ f.v = v
  | [], h => by cases h
  | f :: r, h => by
    unfold orc at h
    split at h
    · rename_i hc
      cases h
      rw [Bool.and_eq_true, Bool.and_eq_true] at hc
      exact ⟨f, List.mem_cons_self, Nat.eq_of_beq_eq_true hc.1.1, Nat.le_of_ble_eq_true hc.1.2, eqCs_eq hc.2, rfl⟩
    · obtain ⟨g, hg, r'⟩ := orc_mem h
      exact ⟨g, List.mem_cons_of_mem _ hg, r'⟩
def callM (tab : List Def) (make : Nat → List PV → Option (List PV)) (glob : List PV) (F : Nat) (fs : List Fact) : Nat → Nat → List CV → Option PV
  | 0, _, _ => none
  | d + 1, n, vs => match tab[n]? with
    | none => none
    | some (.nat g) => g vs
    | some (.fn b) => match orc (d + 1) n vs fs with
      | some v => some v
      | none => runFn ⟨callM tab make glob F fs d, make, glob⟩ F b vs
def Prog.calls (A : Prog) (fs : List Fact) (d : Nat) : Nat → List CV → Option PV := callM A.tab A.make A.glob A.F fs d
/-- the contract of a known call -/
def C_fact (Z : Cls) (f : Fact) : CT := fun As m Kt => RepL Z m [] f.vs As ∧ Kt (absP Z f.v) m
def Facts (A : Prog) (fs : List Fact) : Prop := ∀ f ∈ fs, FnB A (12 + 3 * f.d) (A.who f.n) (C_fact A.Z f)
theorem facts_nil {A : Prog} : Facts A [] := fun _ h => nomatch h
theorem calls_ok {A : Prog} (h : ProgOk A) {fs : List Fact} (hf : Facts A fs) : ∀ d, Calls A d (A.calls fs d)
  | 0 => none_ok h
  | d + 1 => by
    have ih := calls_ok h hf d
    obtain ⟨st1, st2⟩ := step_ok h ih
    refine ⟨fun n hlt => .of fun As m Kt ⟨vs, v, hr, hv, q⟩ => ?_, fun n hge => ?_⟩
    · have hg := List.getElem?_eq_getElem hlt
      have hv' : callM A.tab A.make A.glob A.F fs (d + 1) n vs = some v := hv
      simp only [callM] at hv'
      rw [hg] at hv'
      have plain : stepC A (A.calls fs d) n vs = some v → ∃ C', FnB A (12 + 3 * (d + 1)) (A.who n) C' ∧ C' As m Kt := fun e => ⟨_, st1 n hlt, vs, v, hr, e, q⟩
      split at hv'
      · cases hv'
      · rename_i g hd
        exact plain (by unfold stepC; rw [hg, hd]; exact hv')
      · rename_i b hd
        split at hv'
        · rename_i u ho
          cases hv'
          obtain ⟨f, hm, rfl, hle, rfl, rfl⟩ := orc_mem ho
          exact ⟨C_fact A.Z f, (hf f hm).mono (by omega), hr, q⟩
        · exact plain (by unfold stepC; rw [hg, hd]; exact hv')
    · funext vs
      show callM A.tab A.make A.glob A.F fs (d + 1) n vs = none
      simp only [callM]
      rw [List.getElem?_eq_none_iff.mpr hge]
/-- more calls, told by those that are known -/
def okF (tab : List Def) (make : Nat → List PV → Option (List PV)) (glob : List PV) (F : Nat) (fs : List Fact) (f : Fact) : Bool := Nat.blt f.n tab.length && match callM tab make glob F fs f.d f.n f.vs with
  | some u => eqV u f.v
  | none => false
def okFs (tab : List Def) (make : Nat → List PV → Option (List PV)) (glob : List PV) (F : Nat) (fs : List Fact) : List Fact → Bool
  | [] => true
  | f :: r => okF tab make glob F fs f && okFs tab make glob F fs r
theorem fact_ok {A : Prog} (h : ProgOk A) {fs : List Fact} (hf : Facts A fs) {f : Fact} (hk : okF A.tab A.make A.glob A.F fs f = true) : FnB A (12 + 3 * f.d) (A.who f.n) (C_fact A.Z f) := by
  unfold okF at hk
  rw [Bool.and_eq_true] at hk
  obtain ⟨h1, h2⟩ := hk
  split at h2
  · rename_i u hu
    have e := eqV_eq _ _ h2
    subst e
    exact .of fun As m Kt ⟨hr, q⟩ => ⟨_, (calls_ok h hf f.d).1 f.n (Nat.blt_eq.mp h1), f.vs, f.v, hr, hu, q⟩
  · cases h2
theorem facts_more {A : Prog} (h : ProgOk A) {fs : List Fact} (hf : Facts A fs) : ∀ {gs : List Fact}, okFs A.tab A.make A.glob A.F fs gs = true → Facts A (gs ++ fs)
  | [], _ => hf
  | g :: gs, hk => by
    unfold okFs at hk
    rw [Bool.and_eq_true] at hk
    intro f hm
    rcases List.mem_cons.mp hm with e | hm
    · subst e; exact fact_ok h hf hk.1
    · exact facts_more h hf hk.2 f hm
/-- the law itself: whatever the script, the answer is True -/
def C_lawE : CT := fun As m Kt => ∃ ns : List Int, As = [scr (ns.map AL.int)] ∧ m = [] ∧ ∀ m', Kt (AL.bool true) m'
theorem law_ok {A : Prog} (h : ProgOk A) {fs : List Fact} (hf : Facts A fs) (d : Nat) {x qual : Str} {st : Stmt} {f : Addr} {fd : FuncData} {N : List Str} {p : Str} {b : CSs} (Fl : Fun A.K x qual st f fd) (S : FnScope N [p] (defScope st)) (hb : chkSs A.S N (defScope st) true b (defBody st) = true)
    (hrun : evSs ⟨A.calls fs d, A.make, A.glob⟩ A.F b (List.replicate N.length none) [] = some (.rt (.bl true))) : FnOk A.P A.w A.K A.mg A.base CX0 (14 + 3 * d + 1) f fd [p] (spOf A.K C_lawE) := by
  refine fnOk Fl S (fun As m Kt ⟨ns, e, _⟩ => by rw [e]; rfl) fun X a As m Kt ⟨ns, e1, e2, q⟩ => ?_
  subst e1 e2
  have ok := chkSs_ok (F := A.F) (tab_of h (calls_ok h hf d)) b hb
  have hN : 1 ≤ N.length := by
    have := S.pre
    have h2 := congrArg List.length this
    rw [List.length_take] at h2
    simp at h2
    omega
  have hR : RepE A.Z [] [] (List.replicate N.length none) (startR N [scr (ns.map AL.int)]) := by
    unfold startR
    obtain ⟨k, hk⟩ : ∃ k, N.length = k + 1 := ⟨N.length - 1, by omega⟩
    rw [hk, List.replicate_succ]
    exact .cons trivial (rep_none k)
  have key := ok X a _ _ _ hrun [] [] _ rfl hR (bodyE Kt) ?_
  · simpa [memW] using key
  · intro qs w B cv
    exact ⟨_, [], memW A.Z qs w, rfl, cv, by rw [absP]; exact q []⟩
/-! ### from the program's top -/
theorem good_at {A : Prog} : ∀ {ts : List Who} {ds : List Def} {t0 : Who}, Paired (Good A) ts ds → ∀ (n : Nat) d, ds[n]? = some d → Good A (ts.getD n t0) d
  | _, _, _, .nil, n, x, h => by simp at h
  | _, _, _, .cons r t, 0, x, h => by
    simp at h
    subst h
    exact r
  | _, _, _, .cons _ t, n + 1, x, h => by
    simp at h
    exact good_at t n x h
theorem name_at {mg : Str → Option Value} : ∀ {xs : List Str} {ts : List Who} {t0 : Who}, Paired (fun x (t : Who) => mg x = some (.ref t.1)) xs ts → ∀ (more : List Who) (n : Nat) (x : Str), xs[n]? = some x → mg x = some (.ref ((ts ++ more).getD n t0).1)
  | _, _, _, .nil, _, n, x, h => by simp at h
  | _, _, _, .cons r t, more, 0, x, h => by
    simp at h
    subst h
    exact r
  | _, _, _, .cons r t, more, n + 1, x, h => by
    rw [List.cons_append, List.getD_cons_succ]
    exact name_at t more n x (by simpa using h)
def XAll (mg : Str → Option Value) : List (Nat × Str) → Prop
  | [] => True
  | p :: l => XOk mg p.1 p.2 ∧ XAll mg l
theorem XAll.get {mg : Str → Option Value} : ∀ {l : List (Nat × Str)}, XAll mg l → ∀ k x, (k, x) ∈ l → XOk mg k x
  | [], _, _, _, h => by cases h
  | p :: l, h, k, x, hm => by
    rcases List.mem_cons.mp hm with e | hm
    · rw [← e] at h
      exact h.1
    · exact h.2.get k x hm
/-- a def that is run by what is known of it: where it lies -/
theorem nat_at {P : Program} {w : World} {K : PySem.W.Frag} {mg : Str → Option Value} {base : Heap} {Z : Cls} {x : Str} {g : List CV → Option PV} {j : Nat} {f : Addr} (hm : mg x = some (.ref f)) (F : FnC P w K mg base j x (C_call Z g)) (hj : j ≤ 12) :
    ∃ fd ps, PySem.W.keepIn K (.ref f) = true ∧ Binds K fd ps [] ∧ FnOk P w K mg base CX0 12 f fd ps (spOf K (C_call Z g)) := by
  obtain ⟨f', fd, ps, h1, h2, h3, h4⟩ := F.mono hj
  rw [hm] at h2
  cases h2
  exact ⟨fd, ps, h3, h4, h1⟩
theorem good_nat {A : Prog} {f : Addr} {fd : FuncData} {ps : List Str} {g : List CV → Option PV} (h1 : PySem.W.keepIn A.K (.ref f) = true) (h2 : Binds A.K fd ps []) (h3 : FnOk A.P A.w A.K A.mg A.base CX0 12 f fd ps (spOf A.K (C_call A.Z g))) : Good A (f, fd, ps) (.nat g) := ⟨h1, h2, .inl ⟨g, rfl, h3⟩⟩
theorem good_fn {A : Prog} {x qual : Str} {b : Fn} {N ps : List Str} {st : Stmt} {f : Addr} {fd : FuncData} (F : Fun A.K x qual st f fd) (hb : Binds A.K fd ps []) (hs : FnScope N ps (defScope st)) (h1 : b.ns = N.length) (h2 : b.ps = ps.length) (hc : chkSs A.S N (defScope st) true b.body (defBody st) = true) : Good A (f, fd, ps) (.fn b) :=
  ⟨F.kp, hb, .inr ⟨b, rfl, ⟨N, st, x, qual, F, hs, h1, h2, hc⟩⟩⟩
end EV
namespace EV
open PySem PySem.Spec L2 AL HB
open PyProof.Rows hiding St
/-! defs that are run by what is known of them -/
def pq (q : Q2) : PV := .tup [.int q.1, .int q.2]
def q2 : PV → Option Q2
  | .tup [.int p, .int q] => some (p, q)
  | _ => none
def q2s : List PV → Option (List Q2)
  | [] => some []
  | v :: r => match q2 v, q2s r with
    | some x, some l => some (x :: l)
    | _, _ => none
def valP : PV → Option Q2
  | .int n => some (n, 1)
  | .tup [.int p, .int q] => if decide (1 ≤ q) && decide (Nat.gcd p.natAbs q.natAbs = 1) then some (p, q) else none
  | _ => none
def valPs : List PV → Option (List Q2)
  | [] => some []
  | v :: r => match valP v, valPs r with
    | some x, some l => some (x :: l)
    | _, _ => none
def seqP : PV → Option (List PV)
  | .lst l => some l
  | .tup l => some l
  | _ => none
def nOp (f : Q2 → Q2 → Option Q2) : List CV → Option PV
  | [.p a, .p b] => match q2 a, q2 b with
    | some x, some y => (f x y).map pq
    | _, _ => none
  | _ => none
def nLess : List CV → Option PV
  | [.p a, .p b] => match q2 a, q2 b with
    | some x, some y => (lessO x y).map .bl
    | _, _ => none
  | _ => none
/-- no object of the program's own -/
def plainPV : PV → Bool
  | .int _ => true
  | .bl _ => true
  | .non => true
  | .str _ => true
  | .tup _ => true
  | .lst _ => true
  | _ => false
def isIntP : PV → Bool
  | .int _ => true
  | _ => false
def isSeqP : PV → Bool
  | .lst _ => true
  | .tup _ => true
  | _ => false
def nWhole : List CV → Option PV
  | [.p a] => if plainPV a then some (.bl (isIntP a)) else none
  | _ => none
def nSeq : List CV → Option PV
  | [.p a] => if plainPV a then some (.bl (isSeqP a)) else none
  | _ => none
def nTotal : List CV → Option PV
  | [.p a] => match seqP a with
    | some l => match q2s l with
      | some qs => (totalO qs).map pq
      | none => none
    | none => none
  | _ => none
def nWeights : List CV → Option PV
  | [.p (.int d), .p a, .p t] => if decide (0 ≤ d) then match seqP a with
      | some l => match valPs l, valP t with
        | some qs, some q => (weightsO d.toNat qs q).map fun r => .tup (r.map pq)
        | _, _ => none
      | none => none
    else none
  | _ => none
def mkBend : List PV → Option (List PV)
  | [.int d, a, b] => if decide (0 ≤ d) then match seqP a, seqP b with
      | some l, some r => match valPs l, valPs r with
        | some qs, some hs => if marksO d.toNat qs && decide (hs.length ≤ 900) && decide (hs.length + 1 = d.toNat + qs.length) then some [.int d, .tup (qs.map pq), .tup (hs.map pq)] else none
        | _, _ => none
      | _, _ => none
    else none
  | _ => none
section
variable {Z : Cls}
theorem abs_pq (q : Q2) : absP Z (pq q) = qv q := by simp [pq, absP, absPs]
theorem q2_abs {v : PV} {x : Q2} (h : q2 v = some x) : absP Z v = qv x := by
  unfold q2 at h
  split at h
  · cases h; simp [absP, absPs]
  · cases h
theorem q2s_abs : ∀ {l : List PV} {qs : List Q2}, q2s l = some qs → absPs Z l = qs.map qv
  | [], _, h => by cases h; rw [absPs]; rfl
  | v :: r, qs, h => by
    simp only [q2s] at h
    split at h
    · rename_i x l hx hl
      cases h
      rw [absPs, q2_abs hx, q2s_abs hl]
      rfl
    · cases h
theorem valP_abs {v : PV} {x : Q2} (h : valP v = some x) : IsV (absP Z v) x := by
  unfold valP at h
  split at h
  · cases h; rw [absP]; exact .int _
  · split at h
    · rename_i hh
      cases h
      rw [Bool.and_eq_true] at hh
      simp only [absP, absPs]
      exact .pr _ _ (of_decide_eq_true hh.1) (of_decide_eq_true hh.2)
    · cases h
  · cases h
theorem valPs_abs : ∀ {l : List PV} {qs : List Q2}, valPs l = some qs → IsVs (absPs Z l) qs
  | [], _, h => by cases h; rw [absPs]; exact .nil
  | v :: r, qs, h => by
    simp only [valPs] at h
    split at h
    · rename_i x l hx hl
      cases h
      rw [absPs]
      exact .cons (valP_abs hx) (valPs_abs hl)
    · cases h
theorem seqP_abs {v : PV} {l : List PV} (h : seqP v = some l) : IsSeqA (absP Z v) (absPs Z l) := by
  unfold seqP at h
  split at h
  · cases h; rw [absP]; exact .inl rfl
  · cases h; rw [absP]; exact .inr rfl
  · cases h
theorem map_pq (r : List Q2) : absPs Z (r.map pq) = r.map qv := by
  rw [absPs_map, List.map_map]
  exact List.map_congr_left fun q _ => abs_pq q
theorem rep1 {mo : Mem} {qs : List Addr} {v : PV} {As : List AV} (h : RepL Z mo qs [.p v] As) : As = [absP Z v] := by
  cases h with
  | cons r t => cases t; rw [r.pE]
theorem rep2 {mo : Mem} {qs : List Addr} {v u : PV} {As : List AV} (h : RepL Z mo qs [.p v, .p u] As) : As = [absP Z v, absP Z u] := by
  cases h with
  | cons r t => rw [r.pE, rep1 t]
theorem rep3 {mo : Mem} {qs : List Addr} {v u x : PV} {As : List AV} (h : RepL Z mo qs [.p v, .p u, .p x] As) : As = [absP Z v, absP Z u, absP Z x] := by
  cases h with
  | cons r t => rw [r.pE, rep2 t]
variable {P : Program} {w : World} {K : PySem.W.Frag} {mg : Str → Option Value} {base : Heap} {j : Nat}
theorem N_op {x : Str} {f : Q2 → Q2 → Option Q2} (F : FnC P w K mg base j x (C_opO f)) : FnC P w K mg base j x (C_call Z (nOp f)) := FnC.weak F fun As m Kt ⟨vs, v, hr, h, q⟩ => by
  unfold nOp at h
  split at h
  · split at h
    · rename_i x y hx hy
      obtain ⟨r, h2, rfl⟩ := Option.map_eq_some_iff.mp h
      exact ⟨x, y, r, by rw [rep2 hr, q2_abs hx, q2_abs hy], h2, by rw [← abs_pq (Z := Z)]; exact q⟩
    · cases h
  · cases h
theorem N_less {x : Str} (F : FnC P w K mg base j x C_lessO) : FnC P w K mg base j x (C_call Z nLess) := FnC.weak F fun As m Kt ⟨vs, v, hr, h, q⟩ => by
  unfold nLess at h
  split at h
  · split at h
    · rename_i x y hx hy
      obtain ⟨r, h2, rfl⟩ := Option.map_eq_some_iff.mp h
      exact ⟨x, y, r, by rw [rep2 hr, q2_abs hx, q2_abs hy], h2, by rw [← absP.eq_2 (Z := Z)]; exact q⟩
    · cases h
  · cases h
theorem ty_abs {v : PV} (hp : plainPV v = true) : ∃ t, HasTy (absP Z v) t ∧ t ∈ tys ∧ (t == "int") = isIntP v ∧ (t == "list" || t == "tuple") = isSeqP v := by
  cases v with
  | int i => exact ⟨"int", by rw [absP]; exact ty_int, by simp, rfl, rfl⟩
  | bl i => exact ⟨"bool", by rw [absP]; exact ty_bool, by simp, rfl, rfl⟩
  | non => exact ⟨"NoneType", by rw [absP]; exact ty_non, by simp, rfl, rfl⟩
  | str i => exact ⟨"str", by rw [absP]; exact ty_str, by simp, rfl, rfl⟩
  | tup l => exact ⟨"tuple", by rw [absP]; exact ty_tup, by simp, rfl, rfl⟩
  | lst l => exact ⟨"list", by rw [absP]; exact ty_lst, by simp, rfl, rfl⟩
  | _ => cases hp
theorem N_whole {x : Str} (F : FnC P w K mg base j x C_is_whole) : FnC P w K mg base j x (C_call Z nWhole) := FnC.weak F fun As m Kt ⟨vs, v, hr, h, q⟩ => by
  unfold nWhole at h
  split at h
  · rename_i a
    split at h
    · rename_i hp
      cases h
      obtain ⟨t, h1, h2, h3, _⟩ := ty_abs (Z := Z) hp
      exact ⟨_, t, rep1 hr, h1, h2, by rw [h3, ← absP.eq_2 (Z := Z)]; exact q⟩
    · cases h
  · cases h
theorem N_seq {x : Str} (F : FnC P w K mg base j x C_is_sequence) : FnC P w K mg base j x (C_call Z nSeq) := FnC.weak F fun As m Kt ⟨vs, v, hr, h, q⟩ => by
  unfold nSeq at h
  split at h
  · rename_i a
    split at h
    · rename_i hp
      cases h
      obtain ⟨t, h1, h2, _, h3⟩ := ty_abs (Z := Z) hp
      exact ⟨_, t, rep1 hr, h1, h2, by rw [h3, ← absP.eq_2 (Z := Z)]; exact q⟩
    · cases h
  · cases h
theorem N_total {x : Str} (F : FnC P w K mg base j x C_total) : FnC P w K mg base j x (C_call Z nTotal) := FnC.weak F fun As m Kt ⟨vs, v, hr, h, q⟩ => by
  unfold nTotal at h
  split at h
  · split at h
    · rename_i l hl
      split at h
      · rename_i qs hq
        obtain ⟨r, h2, rfl⟩ := Option.map_eq_some_iff.mp h
        exact ⟨_, qs, r, rep1 hr, by rw [← q2s_abs (Z := Z) hq]; exact seqP_abs hl, h2, by rw [← abs_pq (Z := Z)]; exact q⟩
      · cases h
    · cases h
  · cases h
theorem N_weights {x : Str} (F : FnC P w K mg base j x C_weights) : FnC P w K mg base j x (C_call Z nWeights) := FnC.weak F fun As m Kt ⟨vs, v, hr, h, q⟩ => by
  unfold nWeights at h
  split at h
  · rename_i d a0 t0
    split at h
    · rename_i hd
      split at h
      · rename_i l hl
        split at h
        · rename_i qs t hq ht
          obtain ⟨r, h2, rfl⟩ := Option.map_eq_some_iff.mp h
          have e := rep3 hr
          have ed : ((d.toNat : Nat) : Int) = d := Int.toNat_of_nonneg (of_decide_eq_true hd)
          exact ⟨d.toNat, _, _, qs, _, t, r, by rw [e, ed, absP], seqP_abs hl, valPs_abs hq, valP_abs ht, h2, by rw [← map_pq (Z := Z), ← absP.eq_5 (Z := Z)]; exact q⟩
        · cases h
      · cases h
    · cases h
  · cases h
theorem glob_pair {x : Str} {q : Q2} {v : PV} (h : KPair K mg x q) (e : v = pq q) : ∃ (u : V) (y : Value), mg x = some y ∧ RelV u y ∧ ∀ M H, (absP Z v).p K M H u := by
  obtain ⟨z, h1, h2⟩ := h
  subst e
  refine ⟨.ref z, .ref z, h1, rfl, fun M H => ?_⟩
  rw [abs_pq]
  exact ⟨z, [V.int q.1, V.int q.2], rfl, .inr h2, .cons rfl (.cons rfl .nil)⟩
theorem mkBend_ok {C : Addr} (hC : Z.at_ 0 = C) (hf : Z.fl 0 = [("degree" : Str), ("marks" : Str), ("handles" : Str)]) {ps fs : List PV} (h : mkBend ps = some fs) {Kf : KF} (q : Kf ((Z.fl 0).zip (absPs Z fs))) : R_bend (absPs Z ps) Kf := by
  unfold mkBend at h
  split at h
  · rename_i d a b
    split at h
    · rename_i hd
      split at h
      · rename_i l r hl hr
        split at h
        · rename_i qs hs hq hh
          split at h
          · rename_i hc
            cases h
            simp only [Bool.and_eq_true, decide_eq_true_eq] at hc
            have ed : ((d.toNat : Nat) : Int) = d := Int.toNat_of_nonneg (of_decide_eq_true hd)
            refine ⟨d.toNat, _, _, qs, _, _, hs, by rw [absPs, absPs, absPs, absPs, absP, ed], seqP_abs hl, valPs_abs hq, hc.1.1, seqP_abs hr, valPs_abs hh, hc.1.2, hc.2, ?_⟩
            have e : (Z.fl 0).zip (absPs Z [.int d, .tup (qs.map pq), .tup (hs.map pq)]) = bendF d.toNat qs hs := by
              rw [hf, absPs, absPs, absPs, absPs, absP, absP, absP, map_pq, map_pq]
              show _ = [(("degree" : Str), AL.int ((d.toNat : Nat) : Int)), _, _]
              rw [ed]
              rfl
            rw [e] at q
            exact q
          · cases h
        · cases h
      · cases h
    · cases h
  · cases h
def mkMover : List PV → Option (List PV)
  | [.ins 0 [d1, .tup a, h1], .ins 0 [d2, .tup b, h2]] => match q2s a, q2s b with
    | some m1, some m2 => match L2.atI m1 0, L2.atI m2 0, L2.atI m1 (-1), L2.atI m2 (-1) with
      | some x, some x', some y, some y' => if x = x' ∧ y = y' then some [.ins 0 [d1, .tup a, h1], .ins 0 [d2, .tup b, h2]] else none
      | _, _, _, _ => none
    | _, _ => none
  | _ => none
theorem mkMover_ok {C : Addr} (hC : Z.at_ 0 = C) (hf : Z.fl 0 = [("degree" : Str), ("marks" : Str), ("handles" : Str)]) (hg : Z.fl 1 = [("x" : Str), ("y" : Str)]) {ps fs : List PV} (h : mkMover ps = some fs) {Kf : KF} (q : Kf ((Z.fl 1).zip (absPs Z fs))) : R_mover C (absPs Z ps) Kf := by
  unfold mkMover at h
  split at h
  · rename_i d1 a h1 d2 b h2
    split at h
    · rename_i m1 m2 e1 e2
      split at h
      · rename_i x x' y y' g1 g2 g3 g4
        split at h
        · rename_i hh
          obtain ⟨rfl, rfl⟩ := hh
          cases h
          have ins_eq : ∀ d a h (m : List Q2), q2s a = some m → absP Z (.ins 0 [d, .tup a, h]) = AL.ins C [("degree", absP Z d), ("marks", AL.tup (m.map qv)), ("handles", absP Z h)] := fun d a h m hm => by
            rw [absP, hC, hf, absPs, absPs, absPs, absPs, absP, q2s_abs hm]
            rfl
          rw [hg, absPs, absPs, absPs, ins_eq _ _ _ _ e1, ins_eq _ _ _ _ e2] at q
          rw [absPs, absPs, absPs, ins_eq _ _ _ _ e1, ins_eq _ _ _ _ e2]
          exact ⟨_, _, _, _, m1, m2, _, _, rfl, g1, g2, g3, g4, q⟩
        · cases h
      · cases h
    · cases h
  · cases h
end
theorem memV_nil0 {K : PySem.W.Frag} {H : Hp} : MemV K [] [] H := ⟨fun _ _ z => (by cases z), fun _ _ z => (by cases z), List.nodup_nil⟩
theorem allV_ints0 {K : PySem.W.Frag} {M : List Addr} {H : Hp} : ∀ ns : List Int, AllV K M H (ns.map AL.int) (ns.map V.int)
  | [] => .nil
  | _ :: ns => .cons rfl (allV_ints0 ns)
theorem scr_of0 {K : PySem.W.Frag} {H : Hp} {a : Addr} {xs : List V} (h : SqL K H a xs) : ScrAt K [] H a xs := by
  rcases h with h | h
  · exact .inl ⟨h, List.not_mem_nil⟩
  · exact .inr h
theorem sp_lawE {K : PySem.W.Frag} {H : Hp} {a : Addr} {ns : List Int} {E : XK} (h : SqL K H a (ns.map V.int)) : spOf K C_lawE [.ref a] H (fun v _ => v = .bl true) E :=
  ⟨[], [scr (ns.map AL.int)], [], fun A _ => A = AL.bool true, ⟨ns, rfl, rfl, fun _ => rfl⟩, memV_nil0, .cons ⟨a, _, rfl, scr_of0 h, allV_ints0 ns⟩ .nil, fun A m' v H' e _ _ r => by subst e; exact r⟩
theorem kpair_of0 {K : PySem.W.Frag} {h : Heap} {mg : Str → Option Value} {x : Str} {z : Addr} {p q : Int} {d : Option Addr} {n : Nat} {sl : Array (Option Value)} {t1 t2 : Tok} (X : K.In h) (G : h.Ns mainGlobals mg) (e : PySem.W.nsIn K mainGlobals x = some (some (.ref z))) (l : K.lookup z = some ⟨.type "tuple", d, .seq (Array.mk [.int p t1, .int q t2]) n, sl⟩) : KPair K mg x (p, q) :=
  ⟨z, PySem.W.mg_of X G e, _, _, _, l, rfl, rfl, (by show 2 ≤ sizeLine; decide), .cons ⟨_, rfl⟩ (.cons ⟨_, rfl⟩ .nil)⟩
end EV
namespace EV
open PySem PySem.Spec L2 AL HB
open PyProof.Rows hiding St
abbrev s_f_is_value : Stmt := topS 14
def N_f_is_value : List Str := [("thing" : Str), ("p" : Str), ("q" : Str)]
def P_f_is_value : List Str := [("thing" : Str)]
set_option maxHeartbeats 0 in
def f_is_value : CSs := .cons (.ife (.cast (.call 6 (.cons (.cast (.var 0)) .nil))) (.cons (.ret (.const (.bl true))) .nil) (.nil)) (.cons (.ife (.or (.not (.cast (.isi 2 (.cast (.var 0))))) (.cmp .ne (.cast (.blt .len (.cons (.cast (.var 0)) .nil))) (.const (.int 2)))) (.cons (.ret (.const (.bl false))) .nil) (.nil)) (.cons (.setT [1, 2] (.cast (.var 0))) (.cons (.ret (.and (.cast (.call 6 (.cons (.cast (.var 1)) .nil))) (.and (.cast (.call 6 (.cons (.cast (.var 2)) .nil))) (.and (.cmp .ge (.cast (.var 2)) (.const (.int 1))) (.cmp .eq (.cast (.blt .gcd (.cons (.cast (.var 1)) (.cons (.cast (.var 2)) .nil)))) (.const (.int 1))))))) .nil)))
abbrev s_f_are_values : Stmt := topS 15
def N_f_are_values : List Str := [("thing" : Str), ("part" : Str)]
def P_f_are_values : List Str := [("thing" : Str)]
set_option maxHeartbeats 0 in
def f_are_values : CSs := .cons (.ret (.and (.cast (.call 7 (.cons (.cast (.var 0)) .nil))) (.cast (.blt .all (.cons (.lc [1] (.ex (.cast (.var 0))) (.cast (.call 9 (.cons (.cast (.var 1)) .nil)))) .nil))))) .nil
abbrev s_f_pair : Stmt := topS 16
def N_f_pair : List Str := [("worth" : Str)]
def P_f_pair : List Str := [("worth" : Str)]
set_option maxHeartbeats 0 in
def f_pair : CSs := .cons (.ret (.ife (.cast (.isi 2 (.cast (.var 0)))) (.var 0) (.tup (.cons (.cast (.var 0)) (.cons (.const (.int 1)) .nil))))) .nil
abbrev s_f_pairs : Stmt := topS 17
def N_f_pairs : List Str := [("worths" : Str), ("worth" : Str)]
def P_f_pairs : List Str := [("worths" : Str)]
set_option maxHeartbeats 0 in
def f_pairs : CSs := .cons (.ret (.blt .tuple (.cons (.lc [1] (.ex (.cast (.var 0))) (.cast (.call 11 (.cons (.cast (.var 1)) .nil)))) .nil))) .nil
abbrev s_f_ratio : Stmt := topS 18
def N_f_ratio : List Str := [("p" : Str), ("q" : Str), ("shared" : Str)]
def P_f_ratio : List Str := [("p" : Str), ("q" : Str)]
set_option maxHeartbeats 0 in
def f_ratio : CSs := .cons (.set 2 (.blt .gcd (.cons (.cast (.var 0)) (.cons (.cast (.var 1)) .nil)))) (.cons (.ret (.tup (.cons (.bin .fdiv (.cast (.var 0)) (.cast (.var 2))) (.cons (.bin .fdiv (.cast (.var 1)) (.cast (.var 2))) .nil)))) .nil)
abbrev s_f_halfway : Stmt := topS 24
def N_f_halfway : List Str := [("a" : Str), ("b" : Str)]
def P_f_halfway : List Str := [("a" : Str), ("b" : Str)]
set_option maxHeartbeats 0 in
def f_halfway : CSs := .cons (.ret (.call 13 (.cons (.bin .add (.bin .mul (.cast (.ix (.cast (.var 0)) (.const (.int 0)))) (.cast (.ix (.cast (.var 1)) (.const (.int 1))))) (.bin .mul (.cast (.ix (.cast (.var 1)) (.const (.int 0)))) (.cast (.ix (.cast (.var 0)) (.const (.int 1)))))) (.cons (.bin .mul (.bin .mul (.const (.int 2)) (.cast (.ix (.cast (.var 0)) (.const (.int 1))))) (.cast (.ix (.cast (.var 1)) (.const (.int 1))))) .nil)))) .nil
abbrev s_f_sign_of : Stmt := topS 26
def N_f_sign_of : List Str := [("n" : Str)]
def P_f_sign_of : List Str := [("n" : Str)]
set_option maxHeartbeats 0 in
def f_sign_of : CSs := .cons (.ife (.cmp .eq (.cast (.var 0)) (.const (.int 0))) (.cons (.ret (.const (.int 0))) .nil) (.nil)) (.cons (.ret (.ife (.cmp .gt (.cast (.var 0)) (.const (.int 0))) (.const (.int 1)) (.neg (.const (.int 1))))) .nil)
abbrev s_f_handle_count : Stmt := topS 37
def N_f_handle_count : List Str := [("degree" : Str), ("marks" : Str)]
def P_f_handle_count : List Str := [("degree" : Str), ("marks" : Str)]
set_option maxHeartbeats 0 in
def f_handle_count : CSs := .cons (.ret (.bin .sub (.bin .add (.cast (.var 0)) (.cast (.blt .len (.cons (.cast (.var 1)) .nil)))) (.const (.int 1)))) .nil
abbrev s_f_knots_of : Stmt := topS 38
def N_f_knots_of : List Str := [("degree" : Str), ("marks" : Str), ("row" : Str)]
def P_f_knots_of : List Str := [("degree" : Str), ("marks" : Str)]
set_option maxHeartbeats 0 in
def f_knots_of : CSs := .cons (.set 2 (.call 12 (.cons (.cast (.var 1)) .nil))) (.cons (.ret (.bin .add (.bin .add (.bin .mul (.tup (.cons (.cast (.ix (.cast (.var 2)) (.const (.int 0)))) .nil)) (.cast (.var 0))) (.cast (.var 2))) (.bin .mul (.tup (.cons (.cast (.ix (.cast (.var 2)) (.neg (.const (.int 1))))) .nil)) (.cast (.var 0))))) .nil)
abbrev s_f_is_time : Stmt := topS 39
def N_f_is_time : List Str := [("marks" : Str), ("thing" : Str)]
def P_f_is_time : List Str := [("marks" : Str), ("thing" : Str)]
set_option maxHeartbeats 0 in
def f_is_time : CSs := .cons (.ife (.not (.cast (.call 9 (.cons (.cast (.var 1)) .nil)))) (.cons (.ret (.const (.bl false))) .nil) (.nil)) (.cons (.ret (.and (.not (.cast (.call 4 (.cons (.cast (.call 11 (.cons (.cast (.var 1)) .nil))) (.cons (.cast (.call 11 (.cons (.cast (.ix (.cast (.var 0)) (.const (.int 0)))) .nil))) .nil))))) (.not (.cast (.call 4 (.cons (.cast (.call 11 (.cons (.cast (.ix (.cast (.var 0)) (.neg (.const (.int 1))))) .nil))) (.cons (.cast (.call 11 (.cons (.cast (.var 1)) .nil))) .nil))))))) .nil)
abbrev s_f_time_within : Stmt := topS 40
def N_f_time_within : List Str := [("marks" : Str), ("time" : Str)]
def P_f_time_within : List Str := [("marks" : Str), ("time" : Str)]
set_option maxHeartbeats 0 in
def f_time_within : CSs := .cons (.ife (.not (.cast (.call 18 (.cons (.cast (.var 0)) (.cons (.cast (.var 1)) .nil))))) (.cons (.fail) .nil) (.nil)) (.cons (.ret (.call 11 (.cons (.cast (.var 1)) .nil))) .nil)
abbrev s_f_value : Stmt := topS 41
def N_f_value : List Str := [("bend" : Str), ("time" : Str), ("handle" : Str), ("weight" : Str)]
def P_f_value : List Str := [("bend" : Str), ("time" : Str)]
set_option maxHeartbeats 0 in
def f_value : CSs := .cons (.ret (.call 8 (.cons (.lc [2, 3] (.zip (.cast (.fld 0 2 (.var 0))) (.cast (.call 5 (.cons (.cast (.fld 0 0 (.var 0))) (.cons (.cast (.fld 0 1 (.var 0))) (.cons (.cast (.var 1)) .nil)))))) (.cast (.call 2 (.cons (.cast (.var 2)) (.cons (.cast (.var 3)) .nil))))) .nil))) .nil
abbrev s_f_mixed : Stmt := topS 47
def N_f_mixed : List Str := [("early" : Str), ("late" : Str), ("low" : Str), ("high" : Str), ("standing" : Str), ("rising" : Str), ("span" : Str), ("a" : Str), ("b" : Str)]
def P_f_mixed : List Str := [("early" : Str), ("late" : Str), ("low" : Str), ("high" : Str)]
set_option maxHeartbeats 0 in
def f_mixed : CSs := .cons (.setC 4 (.lc [7, 8] (.zip (.cast (.var 0)) (.cast (.var 1))) (.cast (.call 1 (.cons (.cast (.call 2 (.cons (.cast (.var 3)) (.cons (.cast (.var 7)) .nil)))) (.cons (.cast (.call 2 (.cons (.cast (.var 2)) (.cons (.cast (.var 8)) .nil)))) .nil)))))) (.cons (.setC 5 (.lc [7, 8] (.zip (.cast (.var 0)) (.cast (.var 1))) (.cast (.call 1 (.cons (.cast (.var 8)) (.cons (.cast (.var 7)) .nil)))))) (.cons (.set 6 (.call 1 (.cons (.cast (.var 3)) (.cons (.cast (.var 2)) .nil)))) (.cons (.ret (.blt .tuple (.cons (.lc [7, 8] (.zip (.bin .add (.cast (.var 4)) (.lst (.cons (.cast (.glob 0)) .nil))) (.bin .add (.lst (.cons (.cast (.glob 0)) .nil)) (.cast (.var 5)))) (.cast (.call 3 (.cons (.cast (.call 0 (.cons (.cast (.var 7)) (.cons (.cast (.var 8)) .nil)))) (.cons (.cast (.var 6)) .nil))))) .nil))) .nil)))
abbrev s_f_polar_value : Stmt := topS 48
def N_f_polar_value : List Str := [("powers" : Str), ("times" : Str), ("many" : Str), ("k" : Str), ("worth" : Str), ("part" : Str)]
def P_f_polar_value : List Str := [("powers" : Str), ("times" : Str)]
set_option maxHeartbeats 0 in
def f_polar_value : CSs := .cons (.set 2 (.blt .len (.cons (.cast (.var 1)) .nil))) (.cons (.ret (.call 8 (.cons (.lcz 3 4 5 (.cast (.var 0)) (.cast (.call 23 (.cons (.cast (.var 1)) .nil))) (.cast (.call 3 (.cons (.cast (.call 2 (.cons (.cast (.var 4)) (.cons (.cast (.var 5)) .nil)))) (.cons (.tup (.cons (.cast (.xb 2 (.cons (.cast (.var 2)) (.cons (.cast (.var 3)) .nil)))) (.cons (.const (.int 1)) .nil))) .nil))))) .nil))) .nil)
abbrev s_f__product_sums : Stmt := topS 49
def N_f__product_sums : List Str := [("times" : Str), ("sums" : Str), ("when" : Str), ("longer" : Str), ("worth" : Str), ("a" : Str), ("b" : Str)]
def P_f__product_sums : List Str := [("times" : Str)]
set_option maxHeartbeats 0 in
def f__product_sums : CSs := .cons (.set 1 (.lst (.cons (.cast (.glob 1)) .nil))) (.cons (.fors [2] (.ex (.cast (.var 0))) (.cons (.set 3 (.bin .add (.lst (.cons (.cast (.glob 0)) .nil)) (.lc [4] (.ex (.cast (.var 1))) (.cast (.call 2 (.cons (.cast (.var 4)) (.cons (.cast (.var 2)) .nil))))))) (.cons (.setC 1 (.lc [5, 6] (.zip (.bin .add (.cast (.var 1)) (.lst (.cons (.cast (.glob 0)) .nil))) (.cast (.var 3))) (.cast (.call 0 (.cons (.cast (.var 5)) (.cons (.cast (.var 6)) .nil)))))) .nil))) (.cons (.ret (.var 1)) .nil))
abbrev s_f_rows_of : Stmt := topS 51
def N_f_rows_of : List Str := [("bend" : Str), ("knots" : Str), ("starts" : Str), ("at" : Str)]
def P_f_rows_of : List Str := [("bend" : Str)]
set_option maxHeartbeats 0 in
def f_rows_of : CSs := .cons (.set 1 (.call 17 (.cons (.cast (.fld 0 0 (.var 0))) (.cons (.cast (.fld 0 1 (.var 0))) .nil)))) (.cons (.setC 2 (.lcf [3] (.rng2 (.fld 0 0 (.var 0)) (.call 16 (.cons (.cast (.fld 0 0 (.var 0))) (.cons (.cast (.fld 0 1 (.var 0))) .nil)))) (.cmp .ne (.cast (.ix (.cast (.var 1)) (.var 3))) (.cast (.ix (.cast (.var 1)) (.bin .add (.cast (.var 3)) (.const (.int 1)))))) (.cast (.var 3)))) (.cons (.ret (.blt .tuple (.cons (.lc [3] (.ex (.cast (.var 2))) (.tup (.cons (.cast (.ix (.cast (.var 1)) (.var 3))) (.cons (.cast (.ix (.cast (.var 1)) (.bin .add (.cast (.var 3)) (.const (.int 1))))) (.cons (.cast (.call 25 (.cons (.cast (.var 0)) (.cons (.cast (.var 1)) (.cons (.cast (.var 3)) .nil))))) .nil))))) .nil))) .nil))
abbrev s_f__powers_behind : Stmt := topS 52
def N_f__powers_behind : List Str := [("bend" : Str), ("knots" : Str), ("at" : Str), ("row" : Str), ("size" : Str), ("first" : Str), ("handle" : Str), ("k" : Str)]
def P_f__powers_behind : List Str := [("bend" : Str), ("knots" : Str), ("at" : Str)]
set_option maxHeartbeats 0 in
def f__powers_behind : CSs := .cons (.set 3 (.lc [6] (.ex (.cast (.sl (.cast (.fld 0 2 (.var 0))) (.bin .sub (.cast (.var 2)) (.cast (.fld 0 0 (.var 0)))) (.bin .add (.cast (.var 2)) (.const (.int 1)))))) (.tup (.cons (.cast (.var 6)) .nil)))) (.cons (.fors [4] (.rngD (.fld 0 0 (.var 0)) (.const (.int 0))) (.cons (.set 5 (.bin .add (.bin .sub (.cast (.var 2)) (.cast (.var 4))) (.const (.int 1)))) (.cons (.set 3 (.lc [7] (.rng1 (.var 4)) (.cast (.call 21 (.cons (.cast (.ix (.cast (.var 3)) (.var 7))) (.cons (.cast (.ix (.cast (.var 3)) (.bin .add (.cast (.var 7)) (.const (.int 1))))) (.cons (.cast (.ix (.cast (.var 1)) (.bin .add (.cast (.var 5)) (.cast (.var 7))))) (.cons (.cast (.ix (.cast (.var 1)) (.bin .add (.bin .add (.cast (.var 5)) (.cast (.var 7))) (.cast (.var 4))))) .nil)))))))) .nil))) (.cons (.ret (.ix (.cast (.var 3)) (.const (.int 0)))) .nil))
abbrev s_f_sign_there : Stmt := topS 53
def N_f_sign_there : List Str := [("bend" : Str), ("when" : Str)]
def P_f_sign_there : List Str := [("bend" : Str), ("when" : Str)]
set_option maxHeartbeats 0 in
def f_sign_there : CSs := .cons (.ret (.call 15 (.cons (.cast (.ix (.cast (.call 20 (.cons (.cast (.var 0)) (.cons (.cast (.var 1)) .nil)))) (.const (.int 0)))) .nil))) .nil
abbrev s_f_drawn_handles : Stmt := topS 54
def N_f_drawn_handles : List Str := [("degree" : Str), ("marks" : Str), ("rows" : Str), ("knots" : Str), ("powers_from" : Str), ("row" : Str), ("i" : Str)]
def P_f_drawn_handles : List Str := [("degree" : Str), ("marks" : Str), ("rows" : Str)]
set_option maxHeartbeats 0 in
def f_drawn_handles : CSs := .cons (.set 3 (.call 17 (.cons (.cast (.var 0)) (.cons (.cast (.var 1)) .nil)))) (.cons (.set 4 (.dcm [5] (.ex (.cast (.var 2))) (.cast (.ix (.cast (.var 5)) (.const (.int 0)))) (.cast (.ix (.cast (.var 5)) (.const (.int 2)))))) (.cons (.ret (.lc [6] (.rng1 (.call 16 (.cons (.cast (.var 0)) (.cons (.cast (.var 1)) .nil)))) (.cast (.call 22 (.cons (.cast (.dix (.var 4) (.cast (.ix (.cast (.var 3)) (.var 6))))) (.cons (.cast (.sl (.cast (.var 3)) (.bin .add (.cast (.var 6)) (.const (.int 1))) (.bin .add (.bin .add (.cast (.var 6)) (.const (.int 1))) (.cast (.var 0))))) .nil)))))) .nil))
abbrev s_f_whole_powers : Stmt := topS 56
def N_f_whole_powers : List Str := [("powers" : Str), ("scale" : Str), ("_" : Str), ("q" : Str), ("p" : Str)]
def P_f_whole_powers : List Str := [("powers" : Str)]
set_option maxHeartbeats 0 in
def f_whole_powers : CSs := .cons (.set 1 (.const (.int 1))) (.cons (.fors [2, 3] (.ex (.cast (.var 0))) (.cons (.set 1 (.xb 3 (.cons (.cast (.var 1)) (.cons (.cast (.var 3)) .nil)))) .nil)) (.cons (.ret (.call 29 (.cons (.lc [4, 3] (.ex (.cast (.var 0))) (.bin .mul (.cast (.var 4)) (.bin .fdiv (.cast (.var 1)) (.cast (.var 3))))) .nil))) .nil))
abbrev s_f__plain : Stmt := topS 57
def N_f__plain : List Str := [("whole" : Str), ("shared" : Str), ("n" : Str), ("size" : Str), ("k" : Str)]
def P_f__plain : List Str := [("whole" : Str)]
set_option maxHeartbeats 0 in
def f__plain : CSs := .cons (.set 1 (.const (.int 0))) (.cons (.fors [2] (.ex (.cast (.var 0))) (.cons (.set 1 (.blt .gcd (.cons (.cast (.var 1)) (.cons (.cast (.var 2)) .nil)))) .nil)) (.cons (.set 3 (.mxd (.lcf [4, 2] (.enum (.cast (.var 0))) (.cmp .ne (.cast (.var 2)) (.const (.int 0))) (.bin .add (.cast (.var 4)) (.const (.int 1)))) (.const (.int 0)))) (.cons (.ret (.lc [2] (.ex (.cast (.sl (.cast (.var 0)) (.no) (.var 3)))) (.bin .fdiv (.cast (.var 2)) (.cast (.var 1))))) .nil)))
abbrev s_f_chain_of : Stmt := topS 58
def N_f_chain_of : List Str := [("powers" : Str), ("whole" : Str), ("chain" : Str), ("part" : Str), ("k" : Str), ("n" : Str)]
def P_f_chain_of : List Str := [("powers" : Str)]
set_option maxHeartbeats 0 in
def f_chain_of : CSs := .cons (.set 1 (.call 28 (.cons (.cast (.var 0)) .nil))) (.cons (.newL 2 (.cons (.cast (.var 1)) (.cons (.cast (.call 29 (.cons (.cast (.sl (.lc [4, 5] (.enum (.cast (.var 1))) (.bin .mul (.cast (.var 4)) (.cast (.var 5)))) (.const (.int 1)) (.no))) .nil))) .nil))) (.cons (.whl (.cast (.ix (.cast (.var 2)) (.neg (.const (.int 1))))) (.cons (.app 2 (.cast (.call 31 (.cons (.cast (.ix (.cast (.var 2)) (.neg (.const (.int 2))))) (.cons (.cast (.ix (.cast (.var 2)) (.neg (.const (.int 1))))) .nil))))) .nil)) (.cons (.popx 2) (.cons (.ret (.lc [3] (.ex (.cast (.var 2))) (.cast (.call 32 (.cons (.cast (.var 3)) (.cons (.cast (.ix (.cast (.var 2)) (.neg (.const (.int 1))))) .nil)))))) .nil))))
abbrev s_f__turned_remainder : Stmt := topS 59
def N_f__turned_remainder : List Str := [("one" : Str), ("other" : Str), ("lead" : Str), ("rest" : Str), ("n" : Str)]
def P_f__turned_remainder : List Str := [("one" : Str), ("other" : Str)]
set_option maxHeartbeats 0 in
def f__turned_remainder : CSs := .cons (.set 2 (.ix (.cast (.var 1)) (.neg (.const (.int 1))))) (.cons (.set 3 (.var 0)) (.cons (.whl (.cmp .ge (.cast (.blt .len (.cons (.cast (.var 3)) .nil))) (.cast (.blt .len (.cons (.cast (.var 1)) .nil)))) (.cons (.set 3 (.call 33 (.cons (.cast (.var 3)) (.cons (.cast (.var 1)) (.cons (.cast (.blt .abs (.cons (.cast (.var 2)) .nil))) (.cons (.bin .mul (.cast (.call 15 (.cons (.cast (.var 2)) .nil))) (.cast (.ix (.cast (.var 3)) (.neg (.const (.int 1)))))) .nil)))))) .nil)) (.cons (.ret (.call 29 (.cons (.lc [4] (.ex (.cast (.var 3))) (.neg (.var 4))) .nil))) .nil)))
abbrev s_f__quotient : Stmt := topS 60
def N_f__quotient : List Str := [("one" : Str), ("other" : Str), ("rest" : Str), ("found" : Str)]
def P_f__quotient : List Str := [("one" : Str), ("other" : Str)]
set_option maxHeartbeats 0 in
def f__quotient : CSs := .cons (.set 2 (.var 0)) (.cons (.newL 3 (.nil)) (.cons (.whl (.cmp .ge (.cast (.blt .len (.cons (.cast (.var 2)) .nil))) (.cast (.blt .len (.cons (.cast (.var 1)) .nil)))) (.cons (.app 3 (.bin .fdiv (.cast (.ix (.cast (.var 2)) (.neg (.const (.int 1))))) (.cast (.ix (.cast (.var 1)) (.neg (.const (.int 1))))))) (.cons (.set 2 (.call 33 (.cons (.cast (.var 2)) (.cons (.cast (.var 1)) (.cons (.const (.int 1)) (.cons (.cast (.ix (.cast (.var 3)) (.neg (.const (.int 1))))) .nil)))))) .nil))) (.cons (.ret (.rev (.cast (.var 3)))) .nil)))
abbrev s_f__without_top : Stmt := topS 61
def N_f__without_top : List Str := [("rest" : Str), ("other" : Str), ("scale" : Str), ("many" : Str), ("shift" : Str), ("low" : Str), ("high" : Str), ("n" : Str), ("a" : Str), ("b" : Str)]
def P_f__without_top : List Str := [("rest" : Str), ("other" : Str), ("scale" : Str), ("many" : Str)]
set_option maxHeartbeats 0 in
def f__without_top : CSs := .cons (.set 4 (.bin .sub (.cast (.blt .len (.cons (.cast (.var 0)) .nil))) (.cast (.blt .len (.cons (.cast (.var 1)) .nil))))) (.cons (.setC 5 (.lc [7] (.ex (.cast (.sl (.cast (.var 0)) (.no) (.var 4)))) (.bin .mul (.cast (.var 2)) (.cast (.var 7))))) (.cons (.setC 6 (.lc [8, 9] (.zip (.cast (.sl (.cast (.var 0)) (.var 4) (.no))) (.cast (.var 1))) (.bin .sub (.bin .mul (.cast (.var 2)) (.cast (.var 8))) (.bin .mul (.cast (.var 3)) (.cast (.var 9)))))) (.cons (.ret (.bin .add (.cast (.var 5)) (.cast (.sl (.cast (.var 6)) (.no) (.neg (.const (.int 1))))))) .nil)))
abbrev s_f__value_at : Stmt := topS 62
def N_f__value_at : List Str := [("whole" : Str), ("when" : Str), ("n" : Str), ("p" : Str), ("q" : Str), ("result" : Str), ("scale" : Str)]
def P_f__value_at : List Str := [("whole" : Str), ("when" : Str)]
set_option maxHeartbeats 0 in
def f__value_at : CSs := .cons (.setT [3, 4] (.cast (.var 1))) (.cons (.par [5, 6] (.cons (.cast (.ix (.cast (.var 0)) (.neg (.const (.int 1))))) (.cons (.const (.int 1)) .nil))) (.cons (.fors [2] (.ex (.cast (.rev (.cast (.sl (.cast (.var 0)) (.no) (.neg (.const (.int 1)))))))) (.cons (.set 6 (.bin .mul (.cast (.var 6)) (.cast (.var 4)))) (.cons (.set 5 (.bin .add (.bin .mul (.cast (.var 5)) (.cast (.var 3))) (.bin .mul (.cast (.var 2)) (.cast (.var 6))))) .nil))) (.cons (.ret (.tup (.cons (.cast (.var 5)) (.cons (.cast (.var 6)) .nil)))) .nil)))
abbrev s_f_sign_at : Stmt := topS 63
def N_f_sign_at : List Str := [("whole" : Str), ("when" : Str)]
def P_f_sign_at : List Str := [("whole" : Str), ("when" : Str)]
set_option maxHeartbeats 0 in
def f_sign_at : CSs := .cons (.ret (.call 15 (.cons (.cast (.ix (.cast (.call 34 (.cons (.cast (.var 0)) (.cons (.cast (.var 1)) .nil)))) (.const (.int 0)))) .nil))) .nil
abbrev s_f__changes : Stmt := topS 64
def N_f__changes : List Str := [("chain" : Str), ("when" : Str), ("signs" : Str), ("told" : Str), ("part" : Str), ("sign" : Str), ("early" : Str), ("late" : Str)]
def P_f__changes : List Str := [("chain" : Str), ("when" : Str)]
set_option maxHeartbeats 0 in
def f__changes : CSs := .cons (.setC 2 (.lc [4] (.ex (.cast (.var 0))) (.cast (.call 35 (.cons (.cast (.var 4)) (.cons (.cast (.var 1)) .nil)))))) (.cons (.setC 3 (.lcf [5] (.ex (.cast (.var 2))) (.cmp .ne (.cast (.var 5)) (.const (.int 0))) (.cast (.var 5)))) (.cons (.ret (.blt .len (.cons (.lcf [6, 7] (.zip (.cast (.var 3)) (.cast (.sl (.cast (.var 3)) (.const (.int 1)) (.no)))) (.cmp .ne (.cast (.var 6)) (.cast (.var 7))) (.cast (.var 7))) .nil))) .nil))
abbrev s_f__roots_between : Stmt := topS 65
def N_f__roots_between : List Str := [("chain" : Str), ("low" : Str), ("high" : Str), ("behind" : Str)]
def P_f__roots_between : List Str := [("chain" : Str), ("low" : Str), ("high" : Str)]
set_option maxHeartbeats 0 in
def f__roots_between : CSs := .cons (.set 3 (.ife (.cmp .eq (.cast (.call 35 (.cons (.cast (.ix (.cast (.var 0)) (.const (.int 0)))) (.cons (.cast (.var 2)) .nil)))) (.const (.int 0))) (.const (.int 1)) (.const (.int 0)))) (.cons (.ret (.bin .sub (.bin .sub (.cast (.call 36 (.cons (.cast (.var 0)) (.cons (.cast (.var 1)) .nil)))) (.cast (.call 36 (.cons (.cast (.var 0)) (.cons (.cast (.var 2)) .nil))))) (.cast (.var 3)))) .nil)
abbrev s_f_root_ranges : Stmt := topS 66
def N_f_root_ranges : List Str := [("chain" : Str), ("low" : Str), ("high" : Str), ("found" : Str), ("waiting" : Str), ("many" : Str), ("middle" : Str)]
def P_f_root_ranges : List Str := [("chain" : Str), ("low" : Str), ("high" : Str)]
set_option maxHeartbeats 0 in
def f_root_ranges : CSs := .cons (.newL 3 (.nil)) (.cons (.newL 4 (.cons (.tup (.cons (.cast (.var 1)) (.cons (.cast (.var 2)) .nil))) .nil)) (.cons (.whl (.cast (.var 4)) (.cons (.popT [1, 2] 4) (.cons (.set 5 (.ife (.cmp .eq (.cast (.var 1)) (.cast (.var 2))) (.const (.int 1)) (.call 37 (.cons (.cast (.var 0)) (.cons (.cast (.var 1)) (.cons (.cast (.var 2)) .nil)))))) (.cons (.ife (.and (.cmp .eq (.cast (.var 5)) (.const (.int 1))) (.or (.cmp .eq (.cast (.var 1)) (.cast (.var 2))) (.not (.cast (.call 39 (.cons (.cast (.var 0)) (.cons (.cast (.var 1)) (.cons (.cast (.var 2)) .nil)))))))) (.cons (.app 3 (.tup (.cons (.cast (.var 1)) (.cons (.cast (.var 2)) .nil)))) .nil) (.cons (.ife (.cmp .gt (.cast (.var 5)) (.const (.int 0))) (.cons (.set 6 (.call 14 (.cons (.cast (.var 1)) (.cons (.cast (.var 2)) .nil)))) (.cons (.app 4 (.tup (.cons (.cast (.var 6)) (.cons (.cast (.var 2)) .nil)))) (.cons (.ife (.cmp .eq (.cast (.call 35 (.cons (.cast (.ix (.cast (.var 0)) (.const (.int 0)))) (.cons (.cast (.var 6)) .nil)))) (.const (.int 0))) (.cons (.app 4 (.tup (.cons (.cast (.var 6)) (.cons (.cast (.var 6)) .nil)))) .nil) (.nil)) (.cons (.app 4 (.tup (.cons (.cast (.var 1)) (.cons (.cast (.var 6)) .nil)))) .nil)))) (.nil)) .nil)) .nil)))) (.cons (.ret (.var 3)) .nil)))
abbrev s_f__has_root_end : Stmt := topS 67
def N_f__has_root_end : List Str := [("chain" : Str), ("low" : Str), ("high" : Str)]
def P_f__has_root_end : List Str := [("chain" : Str), ("low" : Str), ("high" : Str)]
set_option maxHeartbeats 0 in
def f__has_root_end : CSs := .cons (.ret (.or (.cmp .eq (.cast (.call 35 (.cons (.cast (.ix (.cast (.var 0)) (.const (.int 0)))) (.cons (.cast (.var 1)) .nil)))) (.const (.int 0))) (.cmp .eq (.cast (.call 35 (.cons (.cast (.ix (.cast (.var 0)) (.const (.int 0)))) (.cons (.cast (.var 2)) .nil)))) (.const (.int 0))))) .nil
abbrev s_f_handles_between : Stmt := topS 69
def N_f_handles_between : List Str := [("bend" : Str), ("rows" : Str), ("low" : Str), ("high" : Str), ("inner" : Str), ("mark" : Str)]
def P_f_handles_between : List Str := [("bend" : Str), ("rows" : Str), ("low" : Str), ("high" : Str)]
set_option maxHeartbeats 0 in
def f_handles_between : CSs := .cons (.setC 4 (.lcf [5] (.ex (.cast (.fld 0 1 (.var 0)))) (.and (.cast (.call 4 (.cons (.cast (.var 2)) (.cons (.cast (.var 5)) .nil)))) (.cast (.call 4 (.cons (.cast (.var 5)) (.cons (.cast (.var 3)) .nil))))) (.cast (.var 5)))) (.cons (.ret (.call 27 (.cons (.cast (.fld 0 0 (.var 0))) (.cons (.bin .add (.bin .add (.lst (.cons (.cast (.var 2)) .nil)) (.cast (.var 4))) (.lst (.cons (.cast (.var 3)) .nil))) (.cons (.cast (.call 41 (.cons (.cast (.var 1)) (.cons (.cast (.var 2)) (.cons (.cast (.var 3)) .nil))))) .nil))))) .nil)
abbrev s_f__rows_between : Stmt := topS 70
def N_f__rows_between : List Str := [("rows" : Str), ("low" : Str), ("high" : Str), ("found" : Str), ("start" : Str), ("end" : Str), ("powers" : Str), ("early" : Str), ("late" : Str)]
def P_f__rows_between : List Str := [("rows" : Str), ("low" : Str), ("high" : Str)]
set_option maxHeartbeats 0 in
def f__rows_between : CSs := .cons (.newL 3 (.nil)) (.cons (.fors [4, 5, 6] (.ex (.cast (.var 0))) (.cons (.ife (.and (.cast (.call 4 (.cons (.cast (.var 4)) (.cons (.cast (.var 2)) .nil)))) (.cast (.call 4 (.cons (.cast (.var 1)) (.cons (.cast (.var 5)) .nil))))) (.cons (.set 7 (.ife (.cast (.call 4 (.cons (.cast (.var 4)) (.cons (.cast (.var 1)) .nil)))) (.var 1) (.var 4))) (.cons (.set 8 (.ife (.cast (.call 4 (.cons (.cast (.var 2)) (.cons (.cast (.var 5)) .nil)))) (.var 2) (.var 5))) (.cons (.app 3 (.tup (.cons (.cast (.var 7)) (.cons (.cast (.var 8)) (.cons (.cast (.var 6)) .nil))))) .nil))) (.nil)) .nil)) (.cons (.ret (.var 3)) .nil))
abbrev s_f_sign_changes : Stmt := topS 71
def N_f_sign_changes : List Str := [("handles" : Str), ("signs" : Str), ("handle" : Str), ("early" : Str), ("late" : Str)]
def P_f_sign_changes : List Str := [("handles" : Str)]
set_option maxHeartbeats 0 in
def f_sign_changes : CSs := .cons (.setC 1 (.lcf [2] (.ex (.cast (.var 0))) (.cmp .ne (.cast (.var 2)) (.cast (.glob 0))) (.cast (.call 15 (.cons (.cast (.ix (.cast (.var 2)) (.const (.int 0)))) .nil))))) (.cons (.ret (.blt .len (.cons (.lcf [3, 4] (.zip (.cast (.var 1)) (.cast (.sl (.cast (.var 1)) (.const (.int 1)) (.no)))) (.cmp .ne (.cast (.var 3)) (.cast (.var 4))) (.cast (.var 4))) .nil))) .nil)
abbrev s_f_found_places : Stmt := topS 73
def N_f_found_places : List Str := [("bend" : Str), ("found" : Str), ("last" : Str), ("start" : Str), ("end" : Str), ("powers" : Str), ("told" : Str), ("first" : Str)]
def P_f_found_places : List Str := [("bend" : Str)]
set_option maxHeartbeats 0 in
def f_found_places : CSs := .cons (.newL 1 (.nil)) (.cons (.fors [3, 4, 5] (.ex (.cast (.call 24 (.cons (.cast (.var 0)) .nil)))) (.cons (.set 6 (.and (.cmp .gt (.cast (.blt .len (.cons (.cast (.var 1)) .nil))) (.const (.int 0))) (.cmp .eq (.cast (.ix (.cast (.ix (.cast (.var 1)) (.neg (.const (.int 1))))) (.const (.int 1)))) (.cast (.var 3))))) (.cons (.ife (.cmp .eq (.cast (.var 5)) (.bin .mul (.tup (.cons (.cast (.glob 0)) .nil)) (.cast (.blt .len (.cons (.cast (.var 5)) .nil))))) (.cons (.popI 7 1 (.cast (.var 6)) 0 (.var 3)) (.cons (.app 1 (.tup (.cons (.cast (.var 7)) (.cons (.cast (.var 4)) (.cons (.const .non) .nil))))) .nil)) (.cons (.ife (.and (.not (.cast (.var 6))) (.cmp .eq (.cast (.call 26 (.cons (.cast (.var 0)) (.cons (.cast (.var 3)) .nil)))) (.const (.int 0)))) (.cons (.app 1 (.tup (.cons (.cast (.var 3)) (.cons (.cast (.var 3)) (.cons (.const .non) .nil))))) .nil) (.nil)) (.cons (.ext 1 (.cast (.call 44 (.cons (.cast (.var 3)) (.cons (.cast (.var 4)) (.cons (.cast (.var 5)) .nil)))))) .nil))) .nil))) (.cons (.set 2 (.ix (.cast (.fld 0 1 (.var 0))) (.neg (.const (.int 1))))) (.cons (.ife (.and (.cmp .eq (.cast (.call 26 (.cons (.cast (.var 0)) (.cons (.cast (.var 2)) .nil)))) (.const (.int 0))) (.or (.not (.cast (.var 1))) (.cmp .ne (.cast (.ix (.cast (.ix (.cast (.var 1)) (.neg (.const (.int 1))))) (.const (.int 1)))) (.cast (.var 2))))) (.cons (.app 1 (.tup (.cons (.cast (.var 2)) (.cons (.cast (.var 2)) (.cons (.const .non) .nil))))) .nil) (.nil)) (.cons (.ret (.var 1)) .nil))))
abbrev s_f__inner_places : Stmt := topS 74
def N_f__inner_places : List Str := [("start" : Str), ("end" : Str), ("powers" : Str), ("chain" : Str), ("low" : Str), ("high" : Str)]
def P_f__inner_places : List Str := [("start" : Str), ("end" : Str), ("powers" : Str)]
set_option maxHeartbeats 0 in
def f__inner_places : CSs := .cons (.set 3 (.call 30 (.cons (.cast (.var 2)) .nil))) (.cons (.ret (.lc [4, 5] (.ex (.cast (.call 38 (.cons (.cast (.var 3)) (.cons (.cast (.var 0)) (.cons (.cast (.var 1)) .nil)))))) (.tup (.cons (.cast (.var 4)) (.cons (.cast (.var 5)) (.cons (.ife (.cmp .eq (.cast (.var 4)) (.cast (.var 5))) (.const .non) (.ix (.cast (.var 3)) (.const (.int 0)))) .nil)))))) .nil)
abbrev s_f_places_hold : Stmt := topS 75
def N_f_places_hold : List Str := [("bend" : Str), ("value" : Str), ("found" : Str), ("at" : Str), ("thing" : Str)]
def P_f_places_hold : List Str := [("bend" : Str), ("value" : Str)]
set_option maxHeartbeats 0 in
def f_places_hold : CSs := .cons (.set 2 (.call 43 (.cons (.cast (.var 0)) .nil))) (.cons (.ife (.or (.not (.cast (.isi 2 (.cast (.var 1))))) (.cmp .ne (.cast (.blt .len (.cons (.cast (.var 1)) .nil))) (.cast (.blt .len (.cons (.cast (.var 2)) .nil))))) (.cons (.ret (.const (.bl false))) .nil) (.nil)) (.cons (.ret (.blt .all (.cons (.lc [3, 4] (.enum (.cast (.var 1))) (.cast (.call 46 (.cons (.cast (.var 0)) (.cons (.cast (.var 2)) (.cons (.cast (.var 3)) (.cons (.cast (.var 4)) .nil))))))) .nil))) .nil))
abbrev s_f__is_told : Stmt := topS 76
def N_f__is_told : List Str := [("bend" : Str), ("found" : Str), ("at" : Str), ("thing" : Str), ("met" : Str), ("a" : Str), ("b" : Str), ("low" : Str), ("high" : Str), ("whole" : Str), ("k" : Str), ("place" : Str)]
def P_f__is_told : List Str := [("bend" : Str), ("found" : Str), ("at" : Str), ("thing" : Str)]
set_option maxHeartbeats 0 in
def f__is_told : CSs := .cons (.ife (.or (.not (.cast (.isi 2 (.cast (.var 3))))) (.or (.cmp .ne (.cast (.blt .len (.cons (.cast (.var 3)) .nil))) (.const (.int 2))) (.not (.cast (.call 10 (.cons (.cast (.var 3)) .nil)))))) (.cons (.ret (.const (.bl false))) .nil) (.nil)) (.cons (.setT [5, 6] (.cast (.call 12 (.cons (.cast (.var 3)) .nil)))) (.cons (.setT [7, 8, 9] (.cast (.ix (.cast (.var 1)) (.var 2)))) (.cons (.ife (.and (.cmp .is (.cast (.var 9)) (.const .non)) (.cmp .ne (.cast (.var 7)) (.cast (.var 8)))) (.cons (.ret (.cmp .eq (.tup (.cons (.cast (.var 5)) (.cons (.cast (.var 6)) .nil))) (.tup (.cons (.cast (.var 7)) (.cons (.cast (.var 8)) .nil))))) .nil) (.nil)) (.cons (.ife (.or (.cast (.call 4 (.cons (.cast (.var 5)) (.cons (.cast (.ix (.cast (.fld 0 1 (.var 0))) (.const (.int 0)))) .nil)))) (.cast (.call 4 (.cons (.cast (.ix (.cast (.fld 0 1 (.var 0))) (.neg (.const (.int 1))))) (.cons (.cast (.var 6)) .nil))))) (.cons (.ret (.const (.bl false))) .nil) (.nil)) (.cons (.setC 4 (.lcf [10, 11] (.enum (.cast (.var 1))) (.and (.not (.cast (.call 47 (.cons (.cast (.var 11)) (.cons (.cast (.var 5)) .nil))))) (.not (.cast (.call 48 (.cons (.cast (.var 11)) (.cons (.cast (.var 6)) .nil)))))) (.cast (.var 10)))) (.cons (.ret (.cmp .eq (.cast (.var 4)) (.lst (.cons (.cast (.var 2)) .nil)))) .nil))))))
abbrev s_f__ends_ahead : Stmt := topS 77
def N_f__ends_ahead : List Str := [("place" : Str), ("when" : Str), ("low" : Str), ("high" : Str), ("whole" : Str)]
def P_f__ends_ahead : List Str := [("place" : Str), ("when" : Str)]
set_option maxHeartbeats 0 in
def f__ends_ahead : CSs := .cons (.setT [2, 3, 4] (.cast (.var 0))) (.cons (.ife (.or (.cmp .is (.cast (.var 4)) (.const .non)) (.or (.cast (.call 4 (.cons (.cast (.var 3)) (.cons (.cast (.var 1)) .nil)))) (.not (.cast (.call 4 (.cons (.cast (.var 2)) (.cons (.cast (.var 1)) .nil))))))) (.cons (.ret (.call 4 (.cons (.cast (.var 3)) (.cons (.cast (.var 1)) .nil)))) .nil) (.nil)) (.cons (.ret (.cmp .eq (.cast (.call 35 (.cons (.cast (.var 4)) (.cons (.cast (.var 1)) .nil)))) (.cast (.call 35 (.cons (.cast (.var 4)) (.cons (.cast (.var 3)) .nil)))))) .nil))
abbrev s_f__begins_behind : Stmt := topS 78
def N_f__begins_behind : List Str := [("place" : Str), ("when" : Str), ("low" : Str), ("high" : Str), ("whole" : Str)]
def P_f__begins_behind : List Str := [("place" : Str), ("when" : Str)]
set_option maxHeartbeats 0 in
def f__begins_behind : CSs := .cons (.setT [2, 3, 4] (.cast (.var 0))) (.cons (.ife (.or (.cmp .is (.cast (.var 4)) (.const .non)) (.or (.cast (.call 4 (.cons (.cast (.var 1)) (.cons (.cast (.var 2)) .nil)))) (.not (.cast (.call 4 (.cons (.cast (.var 1)) (.cons (.cast (.var 3)) .nil))))))) (.cons (.ret (.call 4 (.cons (.cast (.var 1)) (.cons (.cast (.var 2)) .nil)))) .nil) (.nil)) (.cons (.ret (.cmp .eq (.cast (.call 35 (.cons (.cast (.var 4)) (.cons (.cast (.var 1)) .nil)))) (.cast (.call 35 (.cons (.cast (.var 4)) (.cons (.cast (.var 2)) .nil)))))) .nil))
abbrev s_f_cover_holds : Stmt := topS 80
def N_f_cover_holds : List Str := [("bend" : Str), ("value" : Str), ("handles" : Str), ("handle" : Str)]
def P_f_cover_holds : List Str := [("bend" : Str), ("value" : Str)]
set_option maxHeartbeats 0 in
def f_cover_holds : CSs := .cons (.ife (.not (.cast (.call 51 (.cons (.cast (.var 0)) (.cons (.cast (.var 1)) .nil))))) (.cons (.ret (.const (.bl false))) .nil) (.nil)) (.cons (.ret (.blt .all (.cons (.lc2 [2] [3] (.ex (.cast (.call 52 (.cons (.cast (.var 0)) (.cons (.cast (.var 1)) .nil))))) (.ex (.cast (.var 2))) (.cmp .gt (.cast (.ix (.cast (.var 3)) (.const (.int 0)))) (.const (.int 0)))) .nil))) .nil)
abbrev s_f_count_holds : Stmt := topS 81
def N_f_count_holds : List Str := [("bend" : Str), ("value" : Str), ("handles" : Str)]
def P_f_count_holds : List Str := [("bend" : Str), ("value" : Str)]
set_option maxHeartbeats 0 in
def f_count_holds : CSs := .cons (.ife (.not (.cast (.call 51 (.cons (.cast (.var 0)) (.cons (.cast (.var 1)) .nil))))) (.cons (.ret (.const (.bl false))) .nil) (.nil)) (.cons (.ret (.blt .all (.cons (.lc [2] (.ex (.cast (.call 52 (.cons (.cast (.var 0)) (.cons (.cast (.var 1)) .nil))))) (.and (.cmp .nin (.cast (.glob 0)) (.tup (.cons (.cast (.ix (.cast (.var 2)) (.const (.int 0)))) (.cons (.cast (.ix (.cast (.var 2)) (.neg (.const (.int 1))))) .nil)))) (.cmp .lt (.cast (.call 42 (.cons (.cast (.var 2)) .nil))) (.const (.int 2))))) .nil))) .nil)
abbrev s_f__are_cuts : Stmt := topS 82
def N_f__are_cuts : List Str := [("bend" : Str), ("thing" : Str), ("times" : Str), ("early" : Str), ("late" : Str)]
def P_f__are_cuts : List Str := [("bend" : Str), ("thing" : Str)]
set_option maxHeartbeats 0 in
def f__are_cuts : CSs := .cons (.ife (.or (.not (.cast (.isi 2 (.cast (.var 1))))) (.not (.cast (.call 10 (.cons (.cast (.var 1)) .nil))))) (.cons (.ret (.const (.bl false))) .nil) (.nil)) (.cons (.set 2 (.bin .add (.bin .add (.lst (.cons (.cast (.ix (.cast (.fld 0 1 (.var 0))) (.const (.int 0)))) .nil)) (.cast (.blt .list (.cons (.cast (.call 12 (.cons (.cast (.var 1)) .nil))) .nil)))) (.lst (.cons (.cast (.ix (.cast (.fld 0 1 (.var 0))) (.neg (.const (.int 1))))) .nil)))) (.cons (.ret (.blt .all (.cons (.lc [3, 4] (.zip (.cast (.var 2)) (.cast (.sl (.cast (.var 2)) (.const (.int 1)) (.no)))) (.cast (.call 4 (.cons (.cast (.var 3)) (.cons (.cast (.var 4)) .nil))))) .nil))) .nil))
abbrev s_f__cut_handles : Stmt := topS 83
def N_f__cut_handles : List Str := [("bend" : Str), ("cuts" : Str), ("rows" : Str), ("ends" : Str), ("early" : Str), ("late" : Str)]
def P_f__cut_handles : List Str := [("bend" : Str), ("cuts" : Str)]
set_option maxHeartbeats 0 in
def f__cut_handles : CSs := .cons (.set 2 (.call 24 (.cons (.cast (.var 0)) .nil))) (.cons (.set 3 (.bin .add (.bin .add (.lst (.cons (.cast (.ix (.cast (.fld 0 1 (.var 0))) (.const (.int 0)))) .nil)) (.cast (.blt .list (.cons (.cast (.call 12 (.cons (.cast (.var 1)) .nil))) .nil)))) (.lst (.cons (.cast (.ix (.cast (.fld 0 1 (.var 0))) (.neg (.const (.int 1))))) .nil)))) (.cons (.ret (.lc [4, 5] (.zip (.cast (.var 3)) (.cast (.sl (.cast (.var 3)) (.const (.int 1)) (.no)))) (.cast (.call 40 (.cons (.cast (.var 0)) (.cons (.cast (.var 2)) (.cons (.cast (.var 4)) (.cons (.cast (.var 5)) .nil)))))))) .nil))
abbrev s_f__law_odd_right : Stmt := topS 86
def N_f__law_odd_right : List Str := [("_law_made" : Str), ("_law_calm" : Str), ("_law_odd" : Str)]
def P_f__law_odd_right : List Str := [("_law_made" : Str), ("_law_calm" : Str), ("_law_odd" : Str)]
set_option maxHeartbeats 0 in
def f__law_odd_right : CSs := .cons (.ife (.cmp .isn (.cast (.call 49 (.cons (.cast (.var 1)) (.cons (.tup (.cons (.cast (.var 2)) .nil)) .nil)))) (.const (.bl false))) (.cons (.ret (.const (.bl false))) .nil) (.nil)) (.cons (.ife (.cmp .isn (.cast (.call 50 (.cons (.cast (.var 0)) (.cons (.tup (.cons (.cast (.var 2)) .nil)) .nil)))) (.const (.bl false))) (.cons (.ret (.const (.bl false))) .nil) (.nil)) (.cons (.ife (.cmp .isn (.cast (.call 45 (.cons (.cast (.var 0)) (.cons (.tup (.cons (.cast (.var 2)) .nil)) .nil)))) (.const (.bl false))) (.cons (.ret (.const (.bl false))) .nil) (.nil)) (.cons (.ret (.or (.cmp .eq (.cast (.var 2)) (.const (.int 0))) (.cmp .is (.cast (.call 45 (.cons (.cast (.var 0)) (.cons (.tup (.cons (.tup (.cons (.cast (.var 2)) (.cons (.tup (.cons (.const (.int 2)) (.cons (.const (.int 1)) .nil))) .nil))) .nil)) .nil)))) (.const (.bl false))))) .nil)))
abbrev s_f_law : Stmt := topS 90
def N_f_law : List Str := [("_law_script" : Str), ("_law_base" : Str), ("_law_deal_here" : Str), ("_law_bad" : Str), ("_law_turn" : Str), ("_law_made" : Str), ("_law_calm" : Str), ("_law_one" : Str), ("_law_thing" : Str), ("_law_told" : Str)]
def P_f_law : List Str := [("_law_script" : Str)]
set_option maxHeartbeats 0 in
def f_law : CSs := .nil
def tabS : Tab := ⟨[("added" : Str), ("taken" : Str), ("multiplied" : Str), ("divided" : Str), ("is_less" : Str), ("weights" : Str), ("is_whole" : Str), ("is_sequence" : Str), ("total" : Str), ("is_value" : Str), ("are_values" : Str), ("pair" : Str), ("pairs" : Str), ("ratio" : Str), ("halfway" : Str), ("sign_of" : Str), ("handle_count" : Str), ("knots_of" : Str), ("is_time" : Str), ("time_within" : Str), ("value" : Str), ("mixed" : Str), ("polar_value" : Str), ("_product_sums" : Str), ("rows_of" : Str), ("_powers_behind" : Str), ("sign_there" : Str), ("drawn_handles" : Str), ("whole_powers" : Str), ("_plain" : Str), ("chain_of" : Str), ("_turned_remainder" : Str), ("_quotient" : Str), ("_without_top" : Str), ("_value_at" : Str), ("sign_at" : Str), ("_changes" : Str), ("_roots_between" : Str), ("root_ranges" : Str), ("_has_root_end" : Str), ("handles_between" : Str), ("_rows_between" : Str), ("sign_changes" : Str), ("found_places" : Str), ("_inner_places" : Str), ("places_hold" : Str), ("_is_told" : Str), ("_ends_ahead" : Str), ("_begins_behind" : Str), ("cover_holds" : Str), ("count_holds" : Str), ("_are_cuts" : Str), ("_cut_handles" : Str), ("_law_odd_right" : Str), ("law" : Str)], [("ZERO" : Str), ("ONE" : Str)], [("Bend" : Str)], [[("degree" : Str), ("marks" : Str), ("handles" : Str)]], [(2, ("comb" : Str)), (3, ("lcm" : Str)), (0, ("max" : Str))], [], []⟩
def tabD : List Def := [.nat (nOp addO), .nat (nOp subO), .nat (nOp mulO), .nat (nOp divO), .nat (nLess), .nat (nWeights), .nat (nWhole), .nat (nSeq), .nat (nTotal), .fn ⟨1, 3, f_is_value⟩, .fn ⟨1, 2, f_are_values⟩, .fn ⟨1, 1, f_pair⟩, .fn ⟨1, 2, f_pairs⟩, .fn ⟨2, 3, f_ratio⟩, .fn ⟨2, 2, f_halfway⟩, .fn ⟨1, 1, f_sign_of⟩, .fn ⟨2, 2, f_handle_count⟩, .fn ⟨2, 3, f_knots_of⟩, .fn ⟨2, 2, f_is_time⟩, .fn ⟨2, 2, f_time_within⟩, .fn ⟨2, 4, f_value⟩, .fn ⟨4, 9, f_mixed⟩, .fn ⟨2, 6, f_polar_value⟩, .fn ⟨1, 7, f__product_sums⟩, .fn ⟨1, 4, f_rows_of⟩, .fn ⟨3, 8, f__powers_behind⟩, .fn ⟨2, 2, f_sign_there⟩, .fn ⟨3, 7, f_drawn_handles⟩, .fn ⟨1, 5, f_whole_powers⟩, .fn ⟨1, 5, f__plain⟩, .fn ⟨1, 6, f_chain_of⟩, .fn ⟨2, 5, f__turned_remainder⟩, .fn ⟨2, 4, f__quotient⟩, .fn ⟨4, 10, f__without_top⟩, .fn ⟨2, 7, f__value_at⟩, .fn ⟨2, 2, f_sign_at⟩, .fn ⟨2, 8, f__changes⟩, .fn ⟨3, 4, f__roots_between⟩, .fn ⟨3, 7, f_root_ranges⟩, .fn ⟨3, 3, f__has_root_end⟩, .fn ⟨4, 6, f_handles_between⟩, .fn ⟨3, 9, f__rows_between⟩, .fn ⟨1, 5, f_sign_changes⟩, .fn ⟨1, 8, f_found_places⟩, .fn ⟨3, 6, f__inner_places⟩, .fn ⟨2, 5, f_places_hold⟩, .fn ⟨4, 12, f__is_told⟩, .fn ⟨2, 5, f__ends_ahead⟩, .fn ⟨2, 5, f__begins_behind⟩, .fn ⟨2, 4, f_cover_holds⟩, .fn ⟨2, 3, f_count_holds⟩, .fn ⟨2, 5, f__are_cuts⟩, .fn ⟨2, 6, f__cut_handles⟩, .fn ⟨3, 3, f__law_odd_right⟩, .fn ⟨1, 10, .cons (.fail) (.cons (.fail) (f_law))⟩]
def mkC : Nat → List PV → Option (List PV)
  | 0, l => mkBend l
  | _, _ => none
def globD : List PV := [.tup [.int 0, .int 1], .tup [.int 1, .int 1]]
def fuel : Nat := 2000
def isYes : Option Out → Bool
  | some (.rt (.bl true)) => true
  | _ => false
theorem isYes_eq {x : Option Out} (h : isYes x = true) : x = some (.rt (.bl true)) := by
  unfold isYes at h
  split at h
  · rfl
  · cases h
end EV
namespace EV
open PySem PySem.Spec L2 AL HB
open PyProof.Rows hiding St
def q2p (a b : Int) : PV := .tup [.int a, .int b]
def fs0 : List Fact := []
def gs1 : List Fact := [⟨6, 44, [.p (q2p (0) (1)), .p (q2p (2) (1)), .p (.tup [q2p (-1) (1), q2p (1) (1)])], .lst [.tup [q2p (0) (1), q2p (2) (1), .lst [.int (-1), .int 1]]]⟩]
set_option maxHeartbeats 0 in
theorem ok1 : okFs tabD mkC globD fuel fs0 gs1 = true := by decide +kernel
def fs1 : List Fact := gs1 ++ fs0
def gs2 : List Fact := [⟨8, 45, [.p (.ins 0 [.int 1, .tup [q2p (0) (1), q2p (2) (1)], .tup [q2p (-1) (1), q2p (1) (1)]]), .p (.tup [q2p (1) (0)])], .bl false⟩,
  ⟨8, 45, [.p (.ins 0 [.int 1, .tup [q2p (0) (1), q2p (2) (1)], .tup [q2p (-1) (1), q2p (1) (1)]]), .p (.tup [.tup [q2p (1) (0), q2p (2) (1)]])], .bl false⟩,
  ⟨8, 45, [.p (.ins 0 [.int 1, .tup [q2p (0) (1), q2p (2) (1)], .tup [q2p (-1) (1), q2p (1) (1)]]), .p (.tup [q2p (2) (4)])], .bl false⟩,
  ⟨8, 45, [.p (.ins 0 [.int 1, .tup [q2p (0) (1), q2p (2) (1)], .tup [q2p (-1) (1), q2p (1) (1)]]), .p (.tup [.tup [q2p (2) (4), q2p (2) (1)]])], .bl false⟩]
set_option maxHeartbeats 0 in
theorem ok2 : okFs tabD mkC globD fuel fs1 gs2 = true := by decide +kernel
def fs2 : List Fact := gs2 ++ fs1
def gs3 : List Fact := [⟨8, 45, [.p (.ins 0 [.int 1, .tup [q2p (0) (1), q2p (2) (1)], .tup [q2p (-1) (1), q2p (1) (1)]]), .p (.tup [.tup [.bl true, .int 1]])], .bl false⟩,
  ⟨8, 45, [.p (.ins 0 [.int 1, .tup [q2p (0) (1), q2p (2) (1)], .tup [q2p (-1) (1), q2p (1) (1)]]), .p (.tup [.tup [.tup [.bl true, .int 1], q2p (2) (1)]])], .bl false⟩,
  ⟨8, 45, [.p (.ins 0 [.int 1, .tup [q2p (0) (1), q2p (2) (1)], .tup [q2p (-1) (1), q2p (1) (1)]]), .p (.tup [q2p (1) (-2)])], .bl false⟩,
  ⟨8, 45, [.p (.ins 0 [.int 1, .tup [q2p (0) (1), q2p (2) (1)], .tup [q2p (-1) (1), q2p (1) (1)]]), .p (.tup [.tup [q2p (1) (-2), q2p (2) (1)]])], .bl false⟩]
set_option maxHeartbeats 0 in
theorem ok3 : okFs tabD mkC globD fuel fs2 gs3 = true := by decide +kernel
def fs3 : List Fact := gs3 ++ fs2
def gs4 : List Fact := [⟨8, 45, [.p (.ins 0 [.int 1, .tup [q2p (0) (1), q2p (2) (1)], .tup [q2p (-1) (1), q2p (1) (1)]]), .p (.tup [.tup [.tup [.int 1, .int 1, .int 1], q2p (2) (1)]])], .bl false⟩]
set_option maxHeartbeats 0 in
theorem ok4 : okFs tabD mkC globD fuel fs3 gs4 = true := by decide +kernel
def fs4 : List Fact := gs4 ++ fs3
def gs5 : List Fact := [⟨9, 53, [.p (.ins 0 [.int 1, .tup [q2p (0) (1), q2p (2) (1)], .tup [q2p (-1) (1), q2p (1) (1)]]), .p (.ins 0 [.int 0, .tup [q2p (0) (1), q2p (2) (1)], .tup [q2p (3) (1)]]), .p (.tup [.int 1, .int 1, .int 1])], .bl true⟩,
  ⟨8, 45, [.p (.ins 0 [.int 1, .tup [q2p (0) (1), q2p (2) (1)], .tup [q2p (-1) (1), q2p (1) (1)]]), .p (.tup [.tup [.str "1", q2p (2) (1)]])], .bl false⟩]
set_option maxHeartbeats 0 in
theorem ok5 : okFs tabD mkC globD fuel fs4 gs5 = true := by decide +kernel
def fs5 : List Fact := gs5 ++ fs4
def gs6 : List Fact := [⟨9, 53, [.p (.ins 0 [.int 1, .tup [q2p (0) (1), q2p (2) (1)], .tup [q2p (-1) (1), q2p (1) (1)]]), .p (.ins 0 [.int 0, .tup [q2p (0) (1), q2p (2) (1)], .tup [q2p (3) (1)]]), .p (.str "1")], .bl true⟩,
  ⟨8, 45, [.p (.ins 0 [.int 1, .tup [q2p (0) (1), q2p (2) (1)], .tup [q2p (-1) (1), q2p (1) (1)]]), .p (.tup [.tup [.non, q2p (2) (1)]])], .bl false⟩]
set_option maxHeartbeats 0 in
theorem ok6 : okFs tabD mkC globD fuel fs5 gs6 = true := by decide +kernel
def fs6 : List Fact := gs6 ++ fs5
def gs7 : List Fact := [⟨9, 53, [.p (.ins 0 [.int 1, .tup [q2p (0) (1), q2p (2) (1)], .tup [q2p (-1) (1), q2p (1) (1)]]), .p (.ins 0 [.int 0, .tup [q2p (0) (1), q2p (2) (1)], .tup [q2p (3) (1)]]), .p (.non)], .bl true⟩,
  ⟨8, 45, [.p (.ins 0 [.int 1, .tup [q2p (0) (1), q2p (2) (1)], .tup [q2p (-1) (1), q2p (1) (1)]]), .p (.tup [.tup [.lst [.int 1, .int 1], q2p (2) (1)]])], .bl false⟩]
set_option maxHeartbeats 0 in
theorem ok7 : okFs tabD mkC globD fuel fs6 gs7 = true := by decide +kernel
def fs7 : List Fact := gs7 ++ fs6
def gs8 : List Fact := [⟨9, 53, [.p (.ins 0 [.int 1, .tup [q2p (0) (1), q2p (2) (1)], .tup [q2p (-1) (1), q2p (1) (1)]]), .p (.ins 0 [.int 0, .tup [q2p (0) (1), q2p (2) (1)], .tup [q2p (3) (1)]]), .p (.lst [.int 1, .int 1])], .bl true⟩,
  ⟨8, 45, [.p (.ins 0 [.int 1, .tup [q2p (0) (1), q2p (2) (1)], .tup [q2p (-1) (1), q2p (1) (1)]]), .p (.tup [.tup [.tup [.int 1], q2p (2) (1)]])], .bl false⟩]
set_option maxHeartbeats 0 in
theorem ok8 : okFs tabD mkC globD fuel fs7 gs8 = true := by decide +kernel
def fs8 : List Fact := gs8 ++ fs7
def gs9 : List Fact := [⟨9, 53, [.p (.ins 0 [.int 1, .tup [q2p (0) (1), q2p (2) (1)], .tup [q2p (-1) (1), q2p (1) (1)]]), .p (.ins 0 [.int 0, .tup [q2p (0) (1), q2p (2) (1)], .tup [q2p (3) (1)]]), .p (.tup [.int 1])], .bl true⟩,
  ⟨8, 45, [.p (.ins 0 [.int 1, .tup [q2p (0) (1), q2p (2) (1)], .tup [q2p (-1) (1), q2p (1) (1)]]), .p (.tup [.tup [.non, .int 1]])], .bl false⟩,
  ⟨8, 45, [.p (.ins 0 [.int 1, .tup [q2p (0) (1), q2p (2) (1)], .tup [q2p (-1) (1), q2p (1) (1)]]), .p (.tup [.tup [.tup [.non, .int 1], q2p (2) (1)]])], .bl false⟩,
  ⟨8, 45, [.p (.ins 0 [.int 1, .tup [q2p (0) (1), q2p (2) (1)], .tup [q2p (-1) (1), q2p (1) (1)]]), .p (.tup [.tup [.int (-1), q2p (2) (1)]])], .bl false⟩]
set_option maxHeartbeats 0 in
theorem ok9 : okFs tabD mkC globD fuel fs8 gs9 = true := by decide +kernel
def fs9 : List Fact := gs9 ++ fs8
def gs10 : List Fact := [⟨9, 53, [.p (.ins 0 [.int 1, .tup [q2p (0) (1), q2p (2) (1)], .tup [q2p (-1) (1), q2p (1) (1)]]), .p (.ins 0 [.int 0, .tup [q2p (0) (1), q2p (2) (1)], .tup [q2p (3) (1)]]), .p (.int (-1))], .bl true⟩,
  ⟨8, 45, [.p (.ins 0 [.int 1, .tup [q2p (0) (1), q2p (2) (1)], .tup [q2p (-1) (1), q2p (1) (1)]]), .p (.tup [.tup [.int 2, q2p (2) (1)]])], .bl false⟩]
set_option maxHeartbeats 0 in
theorem ok10 : okFs tabD mkC globD fuel fs9 gs10 = true := by decide +kernel
def fs10 : List Fact := gs10 ++ fs9
def gs11 : List Fact := [⟨9, 53, [.p (.ins 0 [.int 1, .tup [q2p (0) (1), q2p (2) (1)], .tup [q2p (-1) (1), q2p (1) (1)]]), .p (.ins 0 [.int 0, .tup [q2p (0) (1), q2p (2) (1)], .tup [q2p (3) (1)]]), .p (.int 2)], .bl true⟩,
  ⟨9, 53, [.p (.ins 0 [.int 1, .tup [q2p (0) (1), q2p (2) (1)], .tup [q2p (-1) (1), q2p (1) (1)]]), .p (.ins 0 [.int 0, .tup [q2p (0) (1), q2p (2) (1)], .tup [q2p (3) (1)]]), .p (.int 0)], .bl true⟩,
  ⟨8, 45, [.p (.ins 0 [.int 1, .tup [q2p (0) (1), q2p (2) (1)], .tup [q2p (-1) (1), q2p (1) (1)]]), .p (.tup [.tup [.bl true, q2p (2) (1)]])], .bl false⟩]
set_option maxHeartbeats 0 in
theorem ok11 : okFs tabD mkC globD fuel fs10 gs11 = true := by decide +kernel
def fs11 : List Fact := gs11 ++ fs10
def gs12 : List Fact := [⟨9, 53, [.p (.ins 0 [.int 1, .tup [q2p (0) (1), q2p (2) (1)], .tup [q2p (-1) (1), q2p (1) (1)]]), .p (.ins 0 [.int 0, .tup [q2p (0) (1), q2p (2) (1)], .tup [q2p (3) (1)]]), .p (.bl true)], .bl true⟩,
  ⟨8, 45, [.p (.ins 0 [.int 1, .tup [q2p (0) (1), q2p (2) (1)], .tup [q2p (-1) (1), q2p (1) (1)]]), .p (.tup [q2p (0) (2)])], .bl true⟩,
  ⟨7, 43, [.p (.ins 0 [.int 0, .tup [q2p (0) (1), q2p (2) (1)], .tup [q2p (3) (1)]])], .lst []⟩]
set_option maxHeartbeats 0 in
theorem ok12 : okFs tabD mkC globD fuel fs11 gs12 = true := by decide +kernel
def fs12 : List Fact := gs12 ++ fs11
def gs13 : List Fact := [⟨6, 52, [.p (.ins 0 [.int 0, .tup [q2p (0) (1), q2p (2) (1)], .tup [q2p (3) (1)]]), .p (.tup [q2p (1) (2), .int 1])], .lst [.lst [q2p (3) (1)], .lst [q2p (3) (1)], .lst [q2p (3) (1)]]⟩,
  ⟨6, 52, [.p (.ins 0 [.int 1, .tup [q2p (0) (1), q2p (2) (1)], .tup [q2p (-1) (1), q2p (1) (1)]]), .p (.tup [])], .lst [.lst [q2p (-1) (1), q2p (1) (1)]]⟩]
set_option maxHeartbeats 0 in
theorem ok13 : okFs tabD mkC globD fuel fs12 gs13 = true := by decide +kernel
def fs13 : List Fact := gs13 ++ fs12
def gs14 : List Fact := [⟨6, 52, [.p (.ins 0 [.int 1, .tup [q2p (0) (1), q2p (2) (1)], .tup [q2p (-1) (1), q2p (1) (1)]]), .p (.tup [q2p (1) (2)])], .lst [.lst [q2p (-1) (1), q2p (-1) (2)], .lst [q2p (-1) (2), q2p (1) (1)]]⟩,
  ⟨6, 52, [.p (.ins 0 [.int 1, .tup [q2p (0) (1), q2p (2) (1)], .tup [q2p (-1) (1), q2p (1) (1)]]), .p (.tup [.int 1])], .lst [.lst [q2p (-1) (1), q2p (0) (1)], .lst [q2p (0) (1), q2p (1) (1)]]⟩]
set_option maxHeartbeats 0 in
theorem ok14 : okFs tabD mkC globD fuel fs13 gs14 = true := by decide +kernel
def fs14 : List Fact := gs14 ++ fs13
def fsN : List Fact := fs14
def deep : Nat := 9
theorem facts_all {A : Prog} (h : ProgOk A) (e1 : A.tab = tabD) (e2 : A.make = mkC) (e3 : A.glob = globD) (e4 : A.F = fuel) : Facts A fsN := by
  have f0 : Facts A fs0 := facts_nil
  have f1 : Facts A fs1 := facts_more h f0 (by rw [e1, e2, e3, e4]; exact ok1)
  have f2 : Facts A fs2 := facts_more h f1 (by rw [e1, e2, e3, e4]; exact ok2)
  have f3 : Facts A fs3 := facts_more h f2 (by rw [e1, e2, e3, e4]; exact ok3)
  have f4 : Facts A fs4 := facts_more h f3 (by rw [e1, e2, e3, e4]; exact ok4)
  have f5 : Facts A fs5 := facts_more h f4 (by rw [e1, e2, e3, e4]; exact ok5)
  have f6 : Facts A fs6 := facts_more h f5 (by rw [e1, e2, e3, e4]; exact ok6)
  have f7 : Facts A fs7 := facts_more h f6 (by rw [e1, e2, e3, e4]; exact ok7)
  have f8 : Facts A fs8 := facts_more h f7 (by rw [e1, e2, e3, e4]; exact ok8)
  have f9 : Facts A fs9 := facts_more h f8 (by rw [e1, e2, e3, e4]; exact ok9)
  have f10 : Facts A fs10 := facts_more h f9 (by rw [e1, e2, e3, e4]; exact ok10)
  have f11 : Facts A fs11 := facts_more h f10 (by rw [e1, e2, e3, e4]; exact ok11)
  have f12 : Facts A fs12 := facts_more h f11 (by rw [e1, e2, e3, e4]; exact ok12)
  have f13 : Facts A fs13 := facts_more h f12 (by rw [e1, e2, e3, e4]; exact ok13)
  have f14 : Facts A fs14 := facts_more h f13 (by rw [e1, e2, e3, e4]; exact ok14)
  exact f14
end EV
namespace EV
open PySem PySem.Spec L2 AL HB
open PyProof.Rows hiding St
theorem sc_f_is_value : FnScope N_f_is_value P_f_is_value (defScope s_f_is_value) := ⟨rfl, rfl, rfl, by decide +kernel, rfl, by decide +kernel, by decide +kernel⟩
set_option maxHeartbeats 0 in
theorem ch_f_is_value : chkSs tabS N_f_is_value (defScope s_f_is_value) true f_is_value (defBody s_f_is_value) = true := by decide +kernel
theorem sc_f_are_values : FnScope N_f_are_values P_f_are_values (defScope s_f_are_values) := ⟨rfl, rfl, rfl, by decide +kernel, rfl, by decide +kernel, by decide +kernel⟩
set_option maxHeartbeats 0 in
theorem ch_f_are_values : chkSs tabS N_f_are_values (defScope s_f_are_values) true f_are_values (defBody s_f_are_values) = true := by decide +kernel
theorem sc_f_pair : FnScope N_f_pair P_f_pair (defScope s_f_pair) := ⟨rfl, rfl, rfl, by decide +kernel, rfl, by decide +kernel, by decide +kernel⟩
set_option maxHeartbeats 0 in
theorem ch_f_pair : chkSs tabS N_f_pair (defScope s_f_pair) true f_pair (defBody s_f_pair) = true := by decide +kernel
theorem sc_f_pairs : FnScope N_f_pairs P_f_pairs (defScope s_f_pairs) := ⟨rfl, rfl, rfl, by decide +kernel, rfl, by decide +kernel, by decide +kernel⟩
set_option maxHeartbeats 0 in
theorem ch_f_pairs : chkSs tabS N_f_pairs (defScope s_f_pairs) true f_pairs (defBody s_f_pairs) = true := by decide +kernel
theorem sc_f_ratio : FnScope N_f_ratio P_f_ratio (defScope s_f_ratio) := ⟨rfl, rfl, rfl, by decide +kernel, rfl, by decide +kernel, by decide +kernel⟩
set_option maxHeartbeats 0 in
theorem ch_f_ratio : chkSs tabS N_f_ratio (defScope s_f_ratio) true f_ratio (defBody s_f_ratio) = true := by decide +kernel
theorem sc_f_halfway : FnScope N_f_halfway P_f_halfway (defScope s_f_halfway) := ⟨rfl, rfl, rfl, by decide +kernel, rfl, by decide +kernel, by decide +kernel⟩
set_option maxHeartbeats 0 in
theorem ch_f_halfway : chkSs tabS N_f_halfway (defScope s_f_halfway) true f_halfway (defBody s_f_halfway) = true := by decide +kernel
theorem sc_f_sign_of : FnScope N_f_sign_of P_f_sign_of (defScope s_f_sign_of) := ⟨rfl, rfl, rfl, by decide +kernel, rfl, by decide +kernel, by decide +kernel⟩
set_option maxHeartbeats 0 in
theorem ch_f_sign_of : chkSs tabS N_f_sign_of (defScope s_f_sign_of) true f_sign_of (defBody s_f_sign_of) = true := by decide +kernel
theorem sc_f_handle_count : FnScope N_f_handle_count P_f_handle_count (defScope s_f_handle_count) := ⟨rfl, rfl, rfl, by decide +kernel, rfl, by decide +kernel, by decide +kernel⟩
set_option maxHeartbeats 0 in
theorem ch_f_handle_count : chkSs tabS N_f_handle_count (defScope s_f_handle_count) true f_handle_count (defBody s_f_handle_count) = true := by decide +kernel
theorem sc_f_knots_of : FnScope N_f_knots_of P_f_knots_of (defScope s_f_knots_of) := ⟨rfl, rfl, rfl, by decide +kernel, rfl, by decide +kernel, by decide +kernel⟩
set_option maxHeartbeats 0 in
theorem ch_f_knots_of : chkSs tabS N_f_knots_of (defScope s_f_knots_of) true f_knots_of (defBody s_f_knots_of) = true := by decide +kernel
theorem sc_f_is_time : FnScope N_f_is_time P_f_is_time (defScope s_f_is_time) := ⟨rfl, rfl, rfl, by decide +kernel, rfl, by decide +kernel, by decide +kernel⟩
set_option maxHeartbeats 0 in
theorem ch_f_is_time : chkSs tabS N_f_is_time (defScope s_f_is_time) true f_is_time (defBody s_f_is_time) = true := by decide +kernel
theorem sc_f_time_within : FnScope N_f_time_within P_f_time_within (defScope s_f_time_within) := ⟨rfl, rfl, rfl, by decide +kernel, rfl, by decide +kernel, by decide +kernel⟩
set_option maxHeartbeats 0 in
theorem ch_f_time_within : chkSs tabS N_f_time_within (defScope s_f_time_within) true f_time_within (defBody s_f_time_within) = true := by decide +kernel
theorem sc_f_value : FnScope N_f_value P_f_value (defScope s_f_value) := ⟨rfl, rfl, rfl, by decide +kernel, rfl, by decide +kernel, by decide +kernel⟩
set_option maxHeartbeats 0 in
theorem ch_f_value : chkSs tabS N_f_value (defScope s_f_value) true f_value (defBody s_f_value) = true := by decide +kernel
theorem sc_f_mixed : FnScope N_f_mixed P_f_mixed (defScope s_f_mixed) := ⟨rfl, rfl, rfl, by decide +kernel, rfl, by decide +kernel, by decide +kernel⟩
set_option maxHeartbeats 0 in
theorem ch_f_mixed : chkSs tabS N_f_mixed (defScope s_f_mixed) true f_mixed (defBody s_f_mixed) = true := by decide +kernel
theorem sc_f_polar_value : FnScope N_f_polar_value P_f_polar_value (defScope s_f_polar_value) := ⟨rfl, rfl, rfl, by decide +kernel, rfl, by decide +kernel, by decide +kernel⟩
set_option maxHeartbeats 0 in
theorem ch_f_polar_value : chkSs tabS N_f_polar_value (defScope s_f_polar_value) true f_polar_value (defBody s_f_polar_value) = true := by decide +kernel
theorem sc_f__product_sums : FnScope N_f__product_sums P_f__product_sums (defScope s_f__product_sums) := ⟨rfl, rfl, rfl, by decide +kernel, rfl, by decide +kernel, by decide +kernel⟩
set_option maxHeartbeats 0 in
theorem ch_f__product_sums : chkSs tabS N_f__product_sums (defScope s_f__product_sums) true f__product_sums (defBody s_f__product_sums) = true := by decide +kernel
theorem sc_f_rows_of : FnScope N_f_rows_of P_f_rows_of (defScope s_f_rows_of) := ⟨rfl, rfl, rfl, by decide +kernel, rfl, by decide +kernel, by decide +kernel⟩
set_option maxHeartbeats 0 in
theorem ch_f_rows_of : chkSs tabS N_f_rows_of (defScope s_f_rows_of) true f_rows_of (defBody s_f_rows_of) = true := by decide +kernel
theorem sc_f__powers_behind : FnScope N_f__powers_behind P_f__powers_behind (defScope s_f__powers_behind) := ⟨rfl, rfl, rfl, by decide +kernel, rfl, by decide +kernel, by decide +kernel⟩
set_option maxHeartbeats 0 in
theorem ch_f__powers_behind : chkSs tabS N_f__powers_behind (defScope s_f__powers_behind) true f__powers_behind (defBody s_f__powers_behind) = true := by decide +kernel
theorem sc_f_sign_there : FnScope N_f_sign_there P_f_sign_there (defScope s_f_sign_there) := ⟨rfl, rfl, rfl, by decide +kernel, rfl, by decide +kernel, by decide +kernel⟩
set_option maxHeartbeats 0 in
theorem ch_f_sign_there : chkSs tabS N_f_sign_there (defScope s_f_sign_there) true f_sign_there (defBody s_f_sign_there) = true := by decide +kernel
theorem sc_f_drawn_handles : FnScope N_f_drawn_handles P_f_drawn_handles (defScope s_f_drawn_handles) := ⟨rfl, rfl, rfl, by decide +kernel, rfl, by decide +kernel, by decide +kernel⟩
set_option maxHeartbeats 0 in
theorem ch_f_drawn_handles : chkSs tabS N_f_drawn_handles (defScope s_f_drawn_handles) true f_drawn_handles (defBody s_f_drawn_handles) = true := by decide +kernel
theorem sc_f_whole_powers : FnScope N_f_whole_powers P_f_whole_powers (defScope s_f_whole_powers) := ⟨rfl, rfl, rfl, by decide +kernel, rfl, by decide +kernel, by decide +kernel⟩
set_option maxHeartbeats 0 in
theorem ch_f_whole_powers : chkSs tabS N_f_whole_powers (defScope s_f_whole_powers) true f_whole_powers (defBody s_f_whole_powers) = true := by decide +kernel
theorem sc_f__plain : FnScope N_f__plain P_f__plain (defScope s_f__plain) := ⟨rfl, rfl, rfl, by decide +kernel, rfl, by decide +kernel, by decide +kernel⟩
set_option maxHeartbeats 0 in
theorem ch_f__plain : chkSs tabS N_f__plain (defScope s_f__plain) true f__plain (defBody s_f__plain) = true := by decide +kernel
theorem sc_f_chain_of : FnScope N_f_chain_of P_f_chain_of (defScope s_f_chain_of) := ⟨rfl, rfl, rfl, by decide +kernel, rfl, by decide +kernel, by decide +kernel⟩
set_option maxHeartbeats 0 in
theorem ch_f_chain_of : chkSs tabS N_f_chain_of (defScope s_f_chain_of) true f_chain_of (defBody s_f_chain_of) = true := by decide +kernel
theorem sc_f__turned_remainder : FnScope N_f__turned_remainder P_f__turned_remainder (defScope s_f__turned_remainder) := ⟨rfl, rfl, rfl, by decide +kernel, rfl, by decide +kernel, by decide +kernel⟩
set_option maxHeartbeats 0 in
theorem ch_f__turned_remainder : chkSs tabS N_f__turned_remainder (defScope s_f__turned_remainder) true f__turned_remainder (defBody s_f__turned_remainder) = true := by decide +kernel
theorem sc_f__quotient : FnScope N_f__quotient P_f__quotient (defScope s_f__quotient) := ⟨rfl, rfl, rfl, by decide +kernel, rfl, by decide +kernel, by decide +kernel⟩
set_option maxHeartbeats 0 in
theorem ch_f__quotient : chkSs tabS N_f__quotient (defScope s_f__quotient) true f__quotient (defBody s_f__quotient) = true := by decide +kernel
theorem sc_f__without_top : FnScope N_f__without_top P_f__without_top (defScope s_f__without_top) := ⟨rfl, rfl, rfl, by decide +kernel, rfl, by decide +kernel, by decide +kernel⟩
set_option maxHeartbeats 0 in
theorem ch_f__without_top : chkSs tabS N_f__without_top (defScope s_f__without_top) true f__without_top (defBody s_f__without_top) = true := by decide +kernel
theorem sc_f__value_at : FnScope N_f__value_at P_f__value_at (defScope s_f__value_at) := ⟨rfl, rfl, rfl, by decide +kernel, rfl, by decide +kernel, by decide +kernel⟩
set_option maxHeartbeats 0 in
theorem ch_f__value_at : chkSs tabS N_f__value_at (defScope s_f__value_at) true f__value_at (defBody s_f__value_at) = true := by decide +kernel
theorem sc_f_sign_at : FnScope N_f_sign_at P_f_sign_at (defScope s_f_sign_at) := ⟨rfl, rfl, rfl, by decide +kernel, rfl, by decide +kernel, by decide +kernel⟩
set_option maxHeartbeats 0 in
theorem ch_f_sign_at : chkSs tabS N_f_sign_at (defScope s_f_sign_at) true f_sign_at (defBody s_f_sign_at) = true := by decide +kernel
theorem sc_f__changes : FnScope N_f__changes P_f__changes (defScope s_f__changes) := ⟨rfl, rfl, rfl, by decide +kernel, rfl, by decide +kernel, by decide +kernel⟩
set_option maxHeartbeats 0 in
theorem ch_f__changes : chkSs tabS N_f__changes (defScope s_f__changes) true f__changes (defBody s_f__changes) = true := by decide +kernel
theorem sc_f__roots_between : FnScope N_f__roots_between P_f__roots_between (defScope s_f__roots_between) := ⟨rfl, rfl, rfl, by decide +kernel, rfl, by decide +kernel, by decide +kernel⟩
set_option maxHeartbeats 0 in
theorem ch_f__roots_between : chkSs tabS N_f__roots_between (defScope s_f__roots_between) true f__roots_between (defBody s_f__roots_between) = true := by decide +kernel
theorem sc_f_root_ranges : FnScope N_f_root_ranges P_f_root_ranges (defScope s_f_root_ranges) := ⟨rfl, rfl, rfl, by decide +kernel, rfl, by decide +kernel, by decide +kernel⟩
set_option maxHeartbeats 0 in
theorem ch_f_root_ranges : chkSs tabS N_f_root_ranges (defScope s_f_root_ranges) true f_root_ranges (defBody s_f_root_ranges) = true := by decide +kernel
theorem sc_f__has_root_end : FnScope N_f__has_root_end P_f__has_root_end (defScope s_f__has_root_end) := ⟨rfl, rfl, rfl, by decide +kernel, rfl, by decide +kernel, by decide +kernel⟩
set_option maxHeartbeats 0 in
theorem ch_f__has_root_end : chkSs tabS N_f__has_root_end (defScope s_f__has_root_end) true f__has_root_end (defBody s_f__has_root_end) = true := by decide +kernel
theorem sc_f_handles_between : FnScope N_f_handles_between P_f_handles_between (defScope s_f_handles_between) := ⟨rfl, rfl, rfl, by decide +kernel, rfl, by decide +kernel, by decide +kernel⟩
set_option maxHeartbeats 0 in
theorem ch_f_handles_between : chkSs tabS N_f_handles_between (defScope s_f_handles_between) true f_handles_between (defBody s_f_handles_between) = true := by decide +kernel
theorem sc_f__rows_between : FnScope N_f__rows_between P_f__rows_between (defScope s_f__rows_between) := ⟨rfl, rfl, rfl, by decide +kernel, rfl, by decide +kernel, by decide +kernel⟩
set_option maxHeartbeats 0 in
theorem ch_f__rows_between : chkSs tabS N_f__rows_between (defScope s_f__rows_between) true f__rows_between (defBody s_f__rows_between) = true := by decide +kernel
theorem sc_f_sign_changes : FnScope N_f_sign_changes P_f_sign_changes (defScope s_f_sign_changes) := ⟨rfl, rfl, rfl, by decide +kernel, rfl, by decide +kernel, by decide +kernel⟩
set_option maxHeartbeats 0 in
theorem ch_f_sign_changes : chkSs tabS N_f_sign_changes (defScope s_f_sign_changes) true f_sign_changes (defBody s_f_sign_changes) = true := by decide +kernel
theorem sc_f_found_places : FnScope N_f_found_places P_f_found_places (defScope s_f_found_places) := ⟨rfl, rfl, rfl, by decide +kernel, rfl, by decide +kernel, by decide +kernel⟩
set_option maxHeartbeats 0 in
theorem ch_f_found_places : chkSs tabS N_f_found_places (defScope s_f_found_places) true f_found_places (defBody s_f_found_places) = true := by decide +kernel
theorem sc_f__inner_places : FnScope N_f__inner_places P_f__inner_places (defScope s_f__inner_places) := ⟨rfl, rfl, rfl, by decide +kernel, rfl, by decide +kernel, by decide +kernel⟩
set_option maxHeartbeats 0 in
theorem ch_f__inner_places : chkSs tabS N_f__inner_places (defScope s_f__inner_places) true f__inner_places (defBody s_f__inner_places) = true := by decide +kernel
theorem sc_f_places_hold : FnScope N_f_places_hold P_f_places_hold (defScope s_f_places_hold) := ⟨rfl, rfl, rfl, by decide +kernel, rfl, by decide +kernel, by decide +kernel⟩
set_option maxHeartbeats 0 in
theorem ch_f_places_hold : chkSs tabS N_f_places_hold (defScope s_f_places_hold) true f_places_hold (defBody s_f_places_hold) = true := by decide +kernel
theorem sc_f__is_told : FnScope N_f__is_told P_f__is_told (defScope s_f__is_told) := ⟨rfl, rfl, rfl, by decide +kernel, rfl, by decide +kernel, by decide +kernel⟩
set_option maxHeartbeats 0 in
theorem ch_f__is_told : chkSs tabS N_f__is_told (defScope s_f__is_told) true f__is_told (defBody s_f__is_told) = true := by decide +kernel
theorem sc_f__ends_ahead : FnScope N_f__ends_ahead P_f__ends_ahead (defScope s_f__ends_ahead) := ⟨rfl, rfl, rfl, by decide +kernel, rfl, by decide +kernel, by decide +kernel⟩
set_option maxHeartbeats 0 in
theorem ch_f__ends_ahead : chkSs tabS N_f__ends_ahead (defScope s_f__ends_ahead) true f__ends_ahead (defBody s_f__ends_ahead) = true := by decide +kernel
theorem sc_f__begins_behind : FnScope N_f__begins_behind P_f__begins_behind (defScope s_f__begins_behind) := ⟨rfl, rfl, rfl, by decide +kernel, rfl, by decide +kernel, by decide +kernel⟩
set_option maxHeartbeats 0 in
theorem ch_f__begins_behind : chkSs tabS N_f__begins_behind (defScope s_f__begins_behind) true f__begins_behind (defBody s_f__begins_behind) = true := by decide +kernel
theorem sc_f_cover_holds : FnScope N_f_cover_holds P_f_cover_holds (defScope s_f_cover_holds) := ⟨rfl, rfl, rfl, by decide +kernel, rfl, by decide +kernel, by decide +kernel⟩
set_option maxHeartbeats 0 in
theorem ch_f_cover_holds : chkSs tabS N_f_cover_holds (defScope s_f_cover_holds) true f_cover_holds (defBody s_f_cover_holds) = true := by decide +kernel
theorem sc_f_count_holds : FnScope N_f_count_holds P_f_count_holds (defScope s_f_count_holds) := ⟨rfl, rfl, rfl, by decide +kernel, rfl, by decide +kernel, by decide +kernel⟩
set_option maxHeartbeats 0 in
theorem ch_f_count_holds : chkSs tabS N_f_count_holds (defScope s_f_count_holds) true f_count_holds (defBody s_f_count_holds) = true := by decide +kernel
theorem sc_f__are_cuts : FnScope N_f__are_cuts P_f__are_cuts (defScope s_f__are_cuts) := ⟨rfl, rfl, rfl, by decide +kernel, rfl, by decide +kernel, by decide +kernel⟩
set_option maxHeartbeats 0 in
theorem ch_f__are_cuts : chkSs tabS N_f__are_cuts (defScope s_f__are_cuts) true f__are_cuts (defBody s_f__are_cuts) = true := by decide +kernel
theorem sc_f__cut_handles : FnScope N_f__cut_handles P_f__cut_handles (defScope s_f__cut_handles) := ⟨rfl, rfl, rfl, by decide +kernel, rfl, by decide +kernel, by decide +kernel⟩
set_option maxHeartbeats 0 in
theorem ch_f__cut_handles : chkSs tabS N_f__cut_handles (defScope s_f__cut_handles) true f__cut_handles (defBody s_f__cut_handles) = true := by decide +kernel
theorem sc_f__law_odd_right : FnScope N_f__law_odd_right P_f__law_odd_right (defScope s_f__law_odd_right) := ⟨rfl, rfl, rfl, by decide +kernel, rfl, by decide +kernel, by decide +kernel⟩
set_option maxHeartbeats 0 in
theorem ch_f__law_odd_right : chkSs tabS N_f__law_odd_right (defScope s_f__law_odd_right) true f__law_odd_right (defBody s_f__law_odd_right) = true := by decide +kernel
theorem sc_f_law : FnScope N_f_law P_f_law (defScope s_f_law) := ⟨rfl, rfl, rfl, by decide +kernel, rfl, by decide +kernel, by decide +kernel⟩
set_option maxHeartbeats 0 in
theorem ch_f_law : chkSs tabS N_f_law (defScope s_f_law) true f_law ((defBody s_f_law).drop 2) = true := by decide +kernel
set_option maxHeartbeats 0 in
theorem ch_f_lawF : chkSs tabS N_f_law (defScope s_f_law) true (.cons (.fail) (.cons (.fail) (f_law))) (defBody s_f_law) = true := by decide +kernel
end EV
/-! EV16: laws whose first statements read the script: these are walked by hand, the rest goes by plain steps, once for each value that may come out. -/
namespace AL
open PySem PySem.Spec L2
open PyProof.Rows hiding St
theorem allV_ints {K : PySem.W.Frag} {M : List Addr} {H : Hp} : ∀ {ns : List Int} {ys : List V}, AllV K M H (ns.map int) ys → ys = ns.map V.int
  | [], [], .nil => rfl
  | n :: ns, y :: ys, .cons r t => by
    rw [allV_ints t]
    have e : y = V.int n := r
    rw [e]
    rfl
section
variable {K : PySem.W.Frag}
theorem abs_sum : AbsCall K (rSum K) fun As m Kt => ∃ ns : List Int, As = [lst (ns.map int)] ∧ Kt (int ns.sum) m := by
  rintro As m Kt fr ρ σ H vs Q ⟨ns, rfl, q⟩ o r g
  cases r with
  | cons r t =>
    cases t
    obtain ⟨p, ys, rfl, h, rr⟩ := r
    rw [allV_ints rr] at h
    exact ⟨p, ns, rfl, h.sq, g _ m _ H q (.refl _ _) o rfl⟩
end
section
variable {P : Program} {w : World} {K : PySem.W.Frag} {mg : Str → Option Value} {base : Heap} {N : List Str} {sc : Scope} {df : Bool} {k : Nat} {X : Cx} {ρ : Rho} {m : Mem} {pos : Pos} {Kt : KA} {e f : Expr}
theorem b_sum (a : At P w K mg base N sc df k X) {p : Pos} (hg : sc.names.lookup ("sum" : Str) = some .globalImplicit) (hm : mg ("sum" : Str) = none) (h : WA X [e] ρ m fun As m1 => ∃ ns : List Int, As = [lst (ns.map int)] ∧ Kt (int ns.sum) m1) (he : starEach (e :: []) X.env = (false, eval e X.env) :: starEach [] X.env := by rfl) (hpl : (backTo pos (starEach [] X.env)).any (·.1) = false := by rfl) : WE X (.Call (.Name "sum" p) [e] [] pos) ρ m Kt :=
  we_callB a (cr_sum a.calm) abs_sum hg hm boot_sum h (by decide) (by decide) he hpl
/-- a slice of the script -/
theorem we_ssl {lo hi : Option Expr} {p2 : Pos} (h : WE X e ρ m fun A m1 => WO X lo ρ m1 fun l m2 => WO X hi ρ m2 fun u m3 => ∃ As, A = scr As ∧ Kt (lst (cutA As l u)) m3) : WE X (.Subscript e (.Slice lo hi none p2) pos) ρ m Kt := by
  intro fr σ H o Q g
  refine le_E (pe_slice sl_list wpE_pe (tO_po lo) (tO_po hi)) ?_
  refine h.to o fun A m1 v H1 h1 x1 o1 r1 => WO.to h1 o1 fun l m2 H2 h2 x2 o2 => WO.to h2 o2 fun u m3 H3 ⟨As, ea, q⟩ x3 o3 => ?_
  subst ea
  obtain ⟨p, xs, rfl, t, rr⟩ := (scr As).st r1 (x2.trans x3)
  exact ⟨p, xs, rfl, t.sq, fun s hs => g _ m3 _ _ q (((x1.trans x2).trans x3).trans (.alloc hs)) (o3.alloc hs) ⟨s, _, rfl, at_newL o3.mem hs, (rr.cut l u).st (.alloc hs)⟩⟩
end
end AL
namespace EV
open PySem PySem.Spec L2 AL
open PyProof.Rows hiding St
theorem law_okX {A : Prog} (h : ProgOk A) {fs : List Fact} (hf : Facts A fs) (d : Nat) {x qual : Str} {st : Stmt} {f : Addr} {fd : FuncData} {N : List Str} {p : Str} {b : CSs} (Fl : Fun A.K x qual st f fd) (S : FnScope N [p] (defScope st)) {n : Nat} (hb : chkSs A.S N (defScope st) true b ((defBody st).drop n) = true)
    (Rs : List Ev) (hrun : ∀ ρc ∈ Rs, evSs ⟨A.calls fs d, A.make, A.glob⟩ A.F b ρc [] = some (.rt (.bl true)))
    (hpre : ∀ X, At A.P A.w A.K A.mg A.base N (defScope st) true (14 + 3 * d) X → ∀ (ns : List Int) B, (∀ ρ, (∃ ρc ∈ Rs, RepE A.Z [] [] ρc ρ) → WSs X ((defBody st).drop n) ρ [] B) → WSs X (defBody st) (startR N [scr (ns.map AL.int)]) [] B) :
    FnOk A.P A.w A.K A.mg A.base CX0 (14 + 3 * d + 1) f fd [p] (spOf A.K C_lawE) := by
  refine fnOk Fl S (fun As m Kt ⟨ns, e, _⟩ => by rw [e]; rfl) fun X a As m Kt ⟨ns, e1, e2, q⟩ => ?_
  subst e1 e2
  have ok := chkSs_ok (F := A.F) (tab_of h (calls_ok h hf d)) b hb
  refine hpre X a ns (bodyE Kt) fun ρ ⟨ρc, hm, hr⟩ => ?_
  have key := ok X a _ _ _ (hrun ρc hm) [] [] _ rfl hr (bodyE Kt) ?_
  · simpa [memW] using key
  · intro qs w B cv
    exact ⟨_, [], memW A.Z qs w, rfl, cv, by rw [absP]; exact q []⟩
end EV
/-! WNR: e[::-1] of a list as a new list of one's own. -/
namespace AL
open PySem PySem.Spec L2
open PyProof.Rows hiding St
section
variable {X : Cx} {ρ : Rho} {m : Mem} {pos : Pos} {e : Expr} {Kl : KL}
theorem wn_rev {kk : Nat} {p1 p2 p3 : Pos} (h : WE X e ρ m fun A m1 => ∃ As, A = lst As ∧ Kl As.reverse m1) : WN X (.Subscript e (.Slice none none (some (.UnaryOp .USub (.Constant (.int 1) kk p1) p2)) p3) pos) ρ m Kl := by
  intro fr σ H o Q g
  refine le_E (pe_revL wpE_pe) ?_
  refine h.to o fun A m1 v H1 ⟨As, ea, q⟩ x1 o1 r1 => ?_
  subst ea
  obtain ⟨p, xs, rfl, t, rr⟩ := r1
  exact ⟨p, xs, rfl, t.sq, fun s hs => g As.reverse m1 s xs.reverse _ q (x1.trans (.push hs)) ⟨o1.env.st (.push hs), o1.mem.push hs⟩ (rr.reverse.st (.push hs))⟩
variable {P : Program} {w : World} {K : PySem.W.Frag} {mg : Str → Option Value} {base : Heap} {N : List Str} {sc : Scope} {df : Bool} {k : Nat}
/-- list(e) as a new list of one's own -/
theorem wn_listOf (a : At P w K mg base N sc df k X) {p : Pos} (hg : sc.names.lookup ("list" : Str) = some .globalImplicit) (hm : mg ("list" : Str) = none) (h : WE X e ρ m fun A m1 => ∃ Bs, IsSq m1 A Bs ∧ Kl Bs m1) (he : starEach (e :: []) X.env = (false, eval e X.env) :: starEach [] X.env := by rfl) (hpl : (backTo pos (starEach [] X.env)).any (·.1) = false := by rfl) :
    WN X (.Call (.Name "list" p) [e] [] pos) ρ m Kl := by
  intro fr σ H o Q g
  refine le_E (pe_callTy call_list_of (gl_of a hg) (by rw [a.mt]; exact hm) (by decide +kernel) (pa_cons wpE_pe pa_nil he) (by decide) (by decide) he hpl) ?_
  refine h.to o fun A m1 v H1 ⟨Bs, hB, q⟩ x1 o1 r1 => ?_
  obtain ⟨p1, ys, rfl, hp, rr⟩ := hB _ _ _ _ o1.mem r1
  exact ⟨p1, ys, rfl, hp, fun l hl => g Bs m1 l ys _ q (x1.trans (.push hl)) ⟨o1.env.st (.push hl), o1.mem.push hl⟩ (rr.st (.push hl))⟩
end
end AL
/-! P20: what the laws of the second kind draw: a deal = [numbers left, a number]. -/
namespace HB
open PySem PySem.Spec L2 AL
open PyProof.Rows hiding St
abbrev dealC (p q : Addr) (cs : List Int) (b : Int) : Mem := [(q, .l (cs.map AL.int)), (p, .l [val (.ref q), AL.int b])]
theorem mulK {i j : Int} (h1 : -(2 ^ 64) < j) (h2 : j < 2 ^ 64) : CMul i j := .inr ⟨h1, h2⟩
theorem div40 {i j : Int} (h : 0 < j) (h2 : j < 2 ^ 40) : CDivW i j := wide_div (b := 40) h (by omega) (by decide) (by decide)
theorem mulH {i j : Int} (h1 : -(2 ^ 64) < i) (h2 : i < 2 ^ 64) : CMul i j := .inl ⟨h1, h2⟩
section
variable {P : Program} {w : World} {K : PySem.W.Frag} {mg : Str → Option Value} {base : Heap} (Z : Blt mg)
def C_deal : CT := fun As m Kt => ∃ (ns : List Int) (k : Int), As = [scr (ns.map AL.int), AL.int k] ∧ m = [] ∧ ∀ p q (cs : List Int) b, cs.length ≤ 1000 → Kt (val (.ref p)) (dealC p q cs b)
abbrev s_law_deal : Stmt := topS 87
abbrev N_law_deal : List Str := ["_law_script", "_law_base", "_law_cell", "_law_cells", "_law_blend"]
theorem sc_law_deal : FnScope N_law_deal ["_law_script", "_law_base"] (defScope s_law_deal) := ⟨rfl, rfl, rfl, by decide +kernel, rfl, by decide +kernel, by decide +kernel⟩
theorem cut56 {As : List AV} {lo : Option Int} : (cutA As lo (some 56)).length ≤ 1000 := by
  unfold cutA
  rw [List.length_take]
  have : HT.sIx As.length As.length (some 56) ≤ 56 := by
    rw [show (56 : Int) = ((56 : Nat) : Int) from rfl, HT.sIx_nat]
    exact Nat.min_le_left _ _
  omega
theorem cutInts {ns : List Int} {lo hi : Option Int} {i : Nat} {A : AV} (h : (cutA (ns.map AL.int) lo hi)[i]? = some A) : ∃ n, A = AL.int n := by
  unfold cutA at h
  have h2 := List.mem_of_mem_drop (List.mem_of_mem_take (List.mem_of_getElem? h))
  obtain ⟨n, _, e⟩ := List.mem_map.mp h2
  exact ⟨n, e.symm⟩
include Z in
theorem F_deal {f : Addr} {fd : FuncData} (F : Fun K "_law_deal" "_law_deal" s_law_deal f fd) (hm : mg "_law_deal" = some (.ref f)) (hb : Binds K fd ["_law_script", "_law_base"] []) : FnC P w K mg base 1 "_law_deal" C_deal := by
  refine fnC F sc_law_deal hm hb (fun As m Kt ⟨ns, k, h, _⟩ => by rw [h]; rfl) fun X a As m Kt ⟨ns, k, e1, em, q⟩ => ?_
  subst e1 em
  have last : ∀ (cs : List Int), cs.length ≤ 1000 → WSs X ((defBody s_law_deal).drop 1) ((startR N_law_deal [scr (ns.map AL.int), AL.int k]).set 3 (some (lst (cs.map AL.int)))) [] (bodyE Kt) := by
    intro cs hcs
    refine wss_cons ?_
    refine ws_set a 4 rfl (.inl rfl) ?_
    refine we_add ?_
    refine we_int ?_
    refine we_mulS ?_
    refine we_int ?_
    refine we_name a 1 rfl (.inl rfl) rfl ?_
    refine ⟨_, _, rfl, rfl, mulH (by decide) (by decide), ?_⟩
    refine ⟨_, _, rfl, rfl, ?_⟩
    refine wss_cons ?_
    refine ws_for a (fun i ρ' m' => m' = [] ∧ ∃ (x : Option AV) (b : Int), ρ' = [some (scr (ns.map AL.int)), some (AL.int k), x, some (lst (cs.map AL.int)), some (AL.int b)]) ?_
    refine wi_list ?_
    refine we_name a 3 rfl (.inl rfl) rfl ?_
    refine ⟨_, rfl, ?_⟩
    refine ⟨⟨rfl, _, _, rfl⟩, fun i A ρ' m' hA hW => ?_, fun ρ' m' hW => ?_⟩
    · obtain ⟨rfl, x, b, rfl⟩ := hW
      obtain ⟨n, rfl⟩ : ∃ n, A = AL.int n := by
        rw [List.getElem?_map] at hA
        obtain ⟨n, _, e⟩ := Option.map_eq_some_iff.mp hA
        exact ⟨n, e.symm⟩
      refine wg_name a 2 rfl (.inl rfl) ?_
      refine wss_cons ?_
      refine ws_set a 4 rfl (.inl rfl) ?_
      refine we_mod ?_
      refine b_int a Z rfl ?_
      refine wa_cons ?_
      refine we_add ?_
      refine we_add ?_
      refine we_mulS ?_
      refine we_name a 4 rfl (.inl rfl) rfl ?_
      refine we_int ?_
      refine ⟨_, _, rfl, rfl, mulK (by decide) (by decide), ?_⟩
      refine we_mod ?_
      refine b_int a Z rfl ?_
      refine wa_cons ?_
      refine we_name a 2 rfl (.inl rfl) rfl ?_
      refine wa_nil ?_
      refine .inl ⟨_, rfl, ?_⟩
      refine we_int ?_
      refine ⟨_, _, rfl, rfl, by decide, ?_⟩
      refine ⟨_, _, rfl, rfl, ?_⟩
      refine we_int ?_
      refine ⟨_, _, rfl, rfl, ?_⟩
      refine wa_nil ?_
      refine .inl ⟨_, rfl, ?_⟩
      refine we_int ?_
      refine ⟨_, _, rfl, rfl, by decide, ?_⟩
      refine wss_nil ?_
      exact ⟨rfl, _, _, rfl⟩
    · obtain ⟨rfl, x, b, rfl⟩ := hW
      refine wss_cons ?_
      refine ws_ret ?_
      refine WN.new (wn_list ?_)
      refine wa_cons ?_
      refine WN.new (wn_rev ?_)
      refine WN.we (wn_lcf a 2 (by decide +kernel) rfl rfl ?_)
      refine wi_list ?_
      refine we_name a 3 rfl (.inl rfl) rfl ?_
      refine ⟨_, rfl, ?_⟩
      refine ⟨by rw [List.length_map]; exact hcs, fun i acc m' => m' = [] ∧ ∃ zs : List Int, acc = zs.map AL.int ∧ zs.length ≤ i, ⟨rfl, [], rfl, Nat.le_refl _⟩, fun i acc m2 A hA hW X' hX => ?_, fun acc m2 hW => ?_⟩
      · obtain ⟨rfl, zs, rfl, hz⟩ := hW
        obtain ⟨n, rfl⟩ : ∃ n, A = AL.int n := by
          rw [List.getElem?_map] at hA
          obtain ⟨n, _, e⟩ := Option.map_eq_some_iff.mp hA
          exact ⟨n, e.symm⟩
        have c := hX.at_ a
        refine wt_icmp op_ge rfl ?_
        refine we_name c 2 rfl (.inl rfl) rfl ?_
        refine we_pow ?_
        refine we_int ?_
        refine we_int ?_
        refine ⟨_, _, rfl, rfl, by unfold CPow; decide, ?_⟩
        refine ⟨_, _, rfl, rfl, ?_⟩
        refine br (fun _ X2 hX2 => ?_) fun _ => ⟨rfl, zs, rfl, Nat.le_succ_of_le hz⟩
        refine we_name (hX2.at_ a) 2 rfl (.inl rfl) rfl ?_
        exact ⟨rfl, zs ++ [n], by rw [List.map_append]; rfl, by rw [List.length_append]; exact Nat.succ_le_succ hz⟩
      · obtain ⟨rfl, zs, rfl, hz⟩ := hW
        refine ⟨_, rfl, fun q1 => ?_⟩
        refine wa_cons ?_
        refine we_name a 4 rfl (.inl rfl) rfl ?_
        refine wa_nil ?_
        refine ⟨(by decide : 2 ≤ 1000), fun p1 => ?_⟩
        refine bodyE.ret ?_
        show Kt _ ([] ++ [(q1, Cell.l (zs.map AL.int).reverse)] ++ [(p1, Cell.l [val (V.ref q1), AL.int b])])
        rw [← List.map_reverse]
        exact q p1 q1 zs.reverse b (by rw [List.length_reverse]; rw [List.length_map] at hz; omega)
  refine wss_cons ?_
  refine ws_lc1 a 3 2 rfl rfl rfl rfl (by decide +kernel) (by decide +kernel) rfl rfl ?_
  refine wi_list ?_
  refine we_ssl ?_
  refine we_name a 0 rfl (.inl rfl) rfl ?_
  show WE _ _ _ _ _
  refine we_name a 1 rfl (.inl rfl) rfl ?_
  refine ⟨_, rfl, ?_⟩
  show WE _ _ _ _ _
  refine we_int ?_
  refine ⟨_, rfl, ?_⟩
  refine ⟨_, rfl, ?_⟩
  refine ⟨_, rfl, ?_⟩
  refine ⟨cut56, fun i acc m' => m' = [] ∧ acc.length = i ∧ ∃ zs : List Int, acc = zs.map AL.int, ⟨rfl, rfl, [], rfl⟩, fun i acc m2 A hA hW X' hX => ?_, fun acc m2 hW => ?_⟩
  · obtain ⟨rfl, hl, zs, rfl⟩ := hW
    obtain ⟨n, rfl⟩ := cutInts hA
    have b := hX.at_ a
    refine b_abs b Z rfl ?_
    refine wa_cons ?_
    refine we_name b 2 rfl (.inl rfl) rfl ?_
    refine wa_nil ?_
    refine ⟨_, rfl, ?_⟩
    exact ⟨rfl, by rw [List.length_append, hl]; rfl, zs ++ [_], by rw [List.map_append]; rfl⟩
  · obtain ⟨rfl, hl, zs, rfl⟩ := hW
    refine last zs ?_
    rw [List.length_map] at hl
    rw [hl]
    exact cut56
/-! ### _law_draw -/
def C_ldraw : CT := fun As m Kt => ∃ (p q : Addr) (cs : List Int) (b n : Int), As = [val (.ref p), AL.int n] ∧ m = dealC p q cs b ∧ cs.length ≤ 1000 ∧ 0 < n ∧ n < 2 ^ 40 ∧ ∀ r (cs' : List Int) b', 0 ≤ r → r < n → cs'.length ≤ 1000 → Kt (AL.int r) (dealC p q cs' b')
abbrev s_law_draw : Stmt := topS 88
abbrev N_law_draw : List Str := ["_law_deal_here", "_law_bound", "_law_rest"]
theorem sc_law_draw : FnScope N_law_draw ["_law_deal_here", "_law_bound"] (defScope s_law_draw) := ⟨rfl, rfl, rfl, by decide +kernel, rfl, by decide +kernel, by decide +kernel⟩
theorem deal_sq {p q : Addr} {cs : List Int} {b : Int} : IsSq (dealC p q cs b) (val (.ref p)) [val (.ref q), AL.int b] := (isLs_mut (by simp)).sq
theorem deal_ls {p q : Addr} {cs : List Int} {b : Int} : IsLs (dealC p q cs b) (val (.ref q)) (cs.map AL.int) := isLs_mut (by simp)
theorem dat_ints {m : Mem} : ∀ cs : List Int, AllDat m (cs.map AL.int) (cs.map PyData.int)
  | [] => .nil
  | _ :: cs => .cons isDat_int (dat_ints cs)
theorem lay_ints : ∀ cs : List Int, PyData.canLayAll0 (cs.map PyData.int) = true ∧ PyData.depthAll (cs.map PyData.int) = 0
  | [] => by simp [PyData.canLayAll0, PyData.depthAll]
  | _ :: cs => by simp [PyData.canLayAll0, PyData.depthAll, PyData.canLay0, PyData.depth, lay_ints cs]
theorem shaped_ints (cs : List Int) : SeqAt.shaped (.list (cs.map PyData.int)) = true := by
  simp [SeqAt.shaped, PyData.canLay0, PyData.depth, lay_ints cs]
theorem eqv_ints (cs : List Int) : PyData.eqv (.list (cs.map PyData.int)) (.list []) = cs.isEmpty := by
  cases cs <;> simp [PyData.eqv, PyData.eqvAll]
theorem last_ints {cs : List Int} {c : Int} : ((cs ++ [c]).map AL.int)[((cs ++ [c]).map AL.int).length - 1]? = some (AL.int c) := by simp
theorem drop_ints {cs : List Int} {c : Int} : ((cs ++ [c]).map AL.int).dropLast = cs.map AL.int := by simp
theorem deal_last {cs : List Int} {c : Int} : L2.atI ((cs ++ [c]).map AL.int) (-1) = some (AL.int c) := by
  simp only [L2.atI, L2.ixN, List.length_map, List.length_append, List.length_singleton]
  rw [if_neg (by omega), if_pos (by omega)]
  show ((cs ++ [c]).map AL.int)[(-1 + ((cs.length + 1 : Nat) : Int)).toNat]? = _
  have e : (-1 + ((cs.length + 1 : Nat) : Int)).toNat = cs.length := by omega
  rw [e]
  simp
include Z in
theorem F_ldraw {f : Addr} {fd : FuncData} (F : Fun K "_law_draw" "_law_draw" s_law_draw f fd) (hm : mg "_law_draw" = some (.ref f)) (hb : Binds K fd ["_law_deal_here", "_law_bound"] []) : FnC P w K mg base 1 "_law_draw" C_ldraw := by
  refine fnC F sc_law_draw hm hb (fun As m Kt ⟨p, q, cs, b, n, h, _⟩ => by rw [h]; rfl) fun X a As m Kt ⟨p, q, cs, b, n, e1, em, hc, n0, n1, k⟩ => ?_
  subst e1 em
  have last : ∀ b : Int, WSs X ((defBody s_law_draw).drop 2) (startR N_law_draw [val (.ref p), AL.int n]) (dealC p q [] b) (bodyE Kt) := fun b => by
    refine wss_cons ?_
    refine ws_store ?_
    refine we_mod ?_
    refine b_int a Z rfl ?_
    refine wa_cons ?_
    refine we_add ?_
    refine we_mulS ?_
    refine we_ix ?_
    refine we_name a 0 rfl (.inl rfl) rfl ?_
    refine we_int ?_
    refine ⟨_, _, _, deal_sq, rfl, rfl, ?_⟩
    refine we_int ?_
    refine ⟨_, _, rfl, rfl, mulK (by decide) (by decide), ?_⟩
    refine we_int ?_
    refine ⟨_, _, rfl, rfl, ?_⟩
    refine wa_nil ?_
    refine .inl ⟨_, rfl, ?_⟩
    refine we_int ?_
    refine ⟨_, _, rfl, rfl, by decide, ?_⟩
    refine we_name a 0 rfl (.inl rfl) rfl ?_
    refine we_int ?_
    refine ⟨p, _, [(q, .l ([].map AL.int))], [], _, 1, rfl, rfl, rfl, rfl, ?_⟩
    refine wss_cons ?_
    refine ws_ret ?_
    refine we_mod ?_
    refine b_int a Z rfl ?_
    refine wa_cons ?_
    refine we_fdiv ?_
    refine we_ix ?_
    refine we_name a 0 rfl (.inl rfl) rfl ?_
    refine we_int ?_
    refine ⟨_, _, _, deal_sq (cs := []), rfl, rfl, ?_⟩
    refine we_int ?_
    refine ⟨_, _, rfl, rfl, div40 (by decide) (by decide), ?_⟩
    refine wa_nil ?_
    refine .inl ⟨_, rfl, ?_⟩
    refine we_name a 1 rfl (.inl rfl) rfl ?_
    refine ⟨_, _, rfl, rfl, n0, ?_⟩
    exact bodyE.ret (k _ [] _ (Int.emod_nonneg _ (by omega)) (Int.emod_lt_of_pos _ n0) (Nat.zero_le _))
  refine wss_cons ?_
  refine ws_while a (fun i ρ' m' => ∃ cs : List Int, cs.length = i ∧ cs.length ≤ 1000 ∧ ρ' = startR N_law_draw [val (.ref p), AL.int n] ∧ m' = dealC p q cs b) cs.length ⟨cs, rfl, hc, rfl, rfl⟩ fun i ρ' m' hW => ?_
  obtain ⟨cs, rfl, hc, rfl, rfl⟩ := hW
  have behind : WSs X ((defBody s_law_draw).drop 1) (startR N_law_draw [val (.ref p), AL.int n]) (dealC p q cs b) (bodyE Kt) := by
    refine wss_cons ?_
    refine ws_if ?_
    refine wt_cmp (op_neD (hu_at a)) abs_neD rfl ?_
    refine we_ix ?_
    refine we_name a 0 rfl (.inl rfl) rfl ?_
    refine we_int ?_
    refine ⟨_, _, _, deal_sq, rfl, rfl, ?_⟩
    refine WN.we (wn_list ?_)
    refine wa_nil ?_
    refine ⟨by decide, ?_⟩
    refine ⟨_, _, isDat_ls deal_ls (dat_ints cs), isDat_ls isLs_lst .nil, shaped_ints cs, by decide, ?_⟩
    rw [eqv_ints]
    refine ⟨_, rfl, br (fun h1 => ?_) fun h1 => ?_⟩
    · obtain ⟨c, cs0, rfl⟩ : ∃ c cs0, cs = cs0 ++ [c] := by
        rcases List.eq_nil_or_concat cs with rfl | ⟨l, x, rfl⟩
        · cases h1
        · exact ⟨x, l, by simp⟩
      rw [List.length_append] at hc
      refine wss_cons ?_
      refine ws_set a 2 rfl (.inl rfl) ?_
      refine EV.we_popL ?_ rfl rfl
      refine we_ix ?_
      refine we_name a 0 rfl (.inl rfl) rfl ?_
      refine we_int ?_
      refine ⟨_, _, _, deal_sq, rfl, rfl, ?_⟩
      refine ⟨q, (cs0 ++ [c]).map AL.int, AL.int c, [], [(p, .l [val (.ref q), AL.int b])], rfl, rfl, last_ints, ?_⟩
      rw [drop_ints]
      refine wss_cons ?_
      refine ws_expr ?_
      refine we_append ?_
      refine we_ix ?_
      refine we_name a 0 rfl (.inl rfl) rfl ?_
      refine we_int ?_
      refine ⟨_, _, _, deal_sq (cs := cs0), rfl, rfl, ?_⟩
      refine ⟨q, cs0.map AL.int, [], [(p, .l [val (.ref q), AL.int b])], rfl, rfl, ?_⟩
      refine we_fdiv ?_
      refine we_name a 2 rfl (.inl rfl) rfl ?_
      refine we_name a 1 rfl (.inl rfl) rfl ?_
      refine ⟨_, _, rfl, rfl, div40 n0 n1, ?_⟩
      refine ⟨cs0.map AL.int, [], [(p, .l [val (.ref q), AL.int b])], rfl, by rw [List.length_map]; exact hc, ?_⟩
      refine wss_cons ?_
      refine ws_ret ?_
      refine we_mod ?_
      refine b_int a Z rfl ?_
      refine wa_cons ?_
      refine we_name a 2 rfl (.inl rfl) rfl ?_
      refine wa_nil ?_
      refine .inl ⟨_, rfl, ?_⟩
      refine we_name a 1 rfl (.inl rfl) rfl ?_
      refine ⟨_, _, rfl, rfl, n0, ?_⟩
      refine bodyE.ret ?_
      have kk := k (c % n) (cs0 ++ [c / n]) b (Int.emod_nonneg _ (by omega)) (Int.emod_lt_of_pos _ n0) (by rw [List.length_append]; exact hc)
      unfold dealC at kk
      rw [List.map_append] at kk
      exact kk
    · have e : cs = [] := by
        cases cs with
        | nil => rfl
        | cons _ _ => cases h1
      subst e
      refine wss_nil ?_
      exact last b
  refine wt_of (ww_and ?_)
  refine wt_cmp (op_neD (hu_at a)) abs_neD rfl ?_
  refine we_ix ?_
  refine we_name a 0 rfl (.inl rfl) rfl ?_
  refine we_int ?_
  refine ⟨_, _, _, deal_sq, rfl, rfl, ?_⟩
  refine WN.we (wn_list ?_)
  refine wa_nil ?_
  refine ⟨by decide, ?_⟩
  refine ⟨_, _, isDat_ls deal_ls (dat_ints cs), isDat_ls isLs_lst .nil, shaped_ints cs, by decide, ?_⟩
  rw [eqv_ints]
  refine ⟨_, rfl, br (fun h1 => ?_) fun h1 => behind⟩
  obtain ⟨c, cs0, rfl⟩ : ∃ c cs0, cs = cs0 ++ [c] := by
    rcases List.eq_nil_or_concat cs with rfl | ⟨l, x, rfl⟩
    · cases h1
    · exact ⟨x, l, by simp⟩
  refine ww_and1 ?_
  refine wt_cmp (op_eqD (hu_at a)) abs_eqD rfl ?_
  refine we_ix ?_
  refine we_ix ?_
  refine we_name a 0 rfl (.inl rfl) rfl ?_
  refine we_int ?_
  refine ⟨_, _, _, deal_sq, rfl, rfl, ?_⟩
  refine we_neg ?_
  refine we_int ?_
  refine ⟨_, rfl, ?_⟩
  refine ⟨_, _, _, deal_ls.sq, rfl, deal_last, ?_⟩
  refine we_int ?_
  refine ⟨_, _, isDat_int, isDat_int, by simp [SeqAt.shaped, PyData.canLay0, PyData.depth], by decide, ?_⟩
  refine ⟨_, rfl, br (fun h2 => ?_) fun h2 => behind⟩
  refine wss_cons ?_
  refine ws_expr ?_
  refine EV.we_popL ?_ rfl rfl
  refine we_ix ?_
  refine we_name a 0 rfl (.inl rfl) rfl ?_
  refine we_int ?_
  refine ⟨_, _, _, deal_sq, rfl, rfl, ?_⟩
  refine ⟨q, (cs0 ++ [c]).map AL.int, AL.int c, [], [(p, .l [val (.ref q), AL.int b])], rfl, rfl, last_ints, ?_⟩
  rw [drop_ints]
  refine wss_nil ?_
  rw [List.length_append] at hc
  exact ⟨cs0.length, by rw [List.length_append]; exact Nat.lt_succ_self _, cs0, rfl, Nat.le_of_succ_le hc, rfl, rfl⟩
end
end HB
/-! HY: walks by hand in which tests and values that stand fast are run by plain steps. -/
namespace EV
open PySem PySem.Spec L2 AL
open PyProof.Rows hiding St
def tst (T : Fns) (c : CE) (ρ : Ev) : Option Bool := match evE T c ρ [] with
  | some v => truth [] v
  | none => none
def vlu (T : Fns) (c : CE) (ρ : Ev) (u : PV) : Bool := match evE T c ρ [] with
  | some (.p v) => eqV v u
  | _ => false
section
variable {A : Prog} (h : ProgOk A) {fs : List Fact} (hf : Facts A fs) {d : Nat} {N : List Str} {sc : Scope} {df : Bool} {X : Cx} (a : At A.P A.w A.K A.mg A.base N sc df (14 + 3 * d) X)
include h hf a
theorem wt_ev (c : CE) {e : Expr} {ρc : Ev} {b : Bool} {m : Mem} {ρ : Rho} {Kb : KT} (hr : RepE A.Z m [] ρc ρ) (hc : chkE A.S N sc df c e = true) (ht : tOk e = true) (hv : tst ⟨A.calls fs d, A.make, A.glob⟩ c ρc = some b) (q : Kb b m) : WT X e ρ m Kb := by
  have t := (chkE_ok (tab_of h (calls_ok h hf d)) c hc).1.2 ht
  unfold tst at hv
  split at hv
  · rename_i v hv1
    have key := t X a ρc [] v b hv1 hv m [] ρ rfl hr Kb
    have e0 : m ++ memW (A.gx d (A.calls fs d)).Z [] [] = m := by simp [memW]
    rw [e0] at key
    exact key q
  · cases hv
theorem we_ev (c : CE) {e : Expr} {ρc : Ev} (u : PV) {m : Mem} {ρ : Rho} {Kt : KA} (hr : RepE A.Z m [] ρc ρ) (hc : chkE A.S N sc df c e = true) (hv : vlu ⟨A.calls fs d, A.make, A.glob⟩ c ρc u = true) (q : Kt (absP A.Z u) m) : AL.WE X e ρ m Kt := by
  have t := (chkE_ok (tab_of h (calls_ok h hf d)) c hc).1.1
  unfold vlu at hv
  split at hv
  · rename_i v hv1
    have key := t X a ρc [] _ hv1 m [] ρ rfl hr Kt
    have e0 : m ++ memW (A.gx d (A.calls fs d)).Z [] [] = m := by simp [memW]
    rw [e0] at key
    refine key fun B hB => ?_
    cases hB with
    | p v => rw [eqV_eq _ _ hv]; exact q
  · cases hv
end
/-- a call of a def that is run by plain steps -/
theorem fnc_of {A : Prog} (h : ProgOk A) {fs : List Fact} (hf : Facts A fs) {d n : Nat} {x : Str} (h1 : A.S.fnm[n]? = some x) (hl : n < A.tab.length) : FnC A.P A.w A.K A.mg A.base (12 + 3 * d) x (C_call A.Z (A.calls fs d n)) := by
  have g := h.defs n _ (List.getElem?_eq_getElem hl)
  exact ⟨(A.who n).1, (A.who n).2.1, (A.who n).2.2, (calls_ok h hf d).1 n hl, h.nm n x h1, g.kp, g.bd⟩
section
variable {P : Program} {w : World} {K : PySem.W.Frag} {mg : Str → Option Value} {base : Heap} {N : List Str} {sc : Scope} {df : Bool} {k : Nat} {X : Cx} (a : At P w K mg base N sc df k X) {ρ : Rho} {m : Mem} {Kt : KA} {pos : Pos} {e : Expr} {es : List Expr}
include a
theorem we_callW {j : Nat} {x : Str} {p : Pos} {C : CT} (F : FnC P w K mg base j x C) (hj : j ≤ k) (hg : sc.names.lookup x = some .globalImplicit) (h : WA X (e :: es) ρ m fun As m1 => C As m1 Kt)
    (hdb : (x == ("__debug__" : Str)) = false := by decide) (he : starEach (e :: es) X.env = (false, eval e X.env) :: starEach es X.env := by rfl) (hpl : (backTo pos (starEach es X.env)).any (·.1) = false := by rfl) : AL.WE X (.Call (.Name x p) (e :: es) [] pos) ρ m Kt := by
  refine we_call a F hj hg ?_ hdb he hpl
  intro fr σ H o Q g
  refine h fr σ H o Q fun As m' vs H' k1 x1 o1 r1 => ?_
  refine g As m' vs H' ⟨m', [], by simp, ?_⟩ x1 o1 r1
  have e0 : (fun A mc' => Kt A (mc' ++ [])) = Kt := by funext A mc'; rw [List.append_nil]
  rw [e0]
  exact k1
theorem we_call0 {j : Nat} {x : Str} {p : Pos} {C : CT} (F : FnC P w K mg base j x C) (hj : j ≤ k) (hg : sc.names.lookup x = some .globalImplicit) (h : WA X (e :: es) ρ m fun As m1 => C As [] fun A mc' => Kt A (mc' ++ m1))
    (hdb : (x == ("__debug__" : Str)) = false := by decide) (he : starEach (e :: es) X.env = (false, eval e X.env) :: starEach es X.env := by rfl) (hpl : (backTo pos (starEach es X.env)).any (·.1) = false := by rfl) : AL.WE X (.Call (.Name x p) (e :: es) [] pos) ρ m Kt := by
  refine we_call a F hj hg ?_ hdb he hpl
  intro fr σ H o Q g
  exact h fr σ H o Q fun As m' vs H' k1 x1 o1 r1 => g As m' vs H' ⟨[], m', rfl, k1⟩ x1 o1 r1
end
/-- of which type a value is, own classes too -/
structure OwnTy (K : PySem.W.Frag) (C : Addr) : Prop where
  cls : L2.Cls K C
  ha : PySem.W.findIn K (.ref C) "__class__" = some (some (.builtin "object.__class__"))
  hn : PySem.W.specialIn K (.builtin "object.__class__") "__get__" = some (some (.builtin "getset_descriptor.__get__"))
  ht : PySem.W.takesIn K (.builtin "object.__class__") = some true
  hm : PySem.W.mroIn K C (.type "object") = some true
def TyA (K : PySem.W.Frag) (A : AV) (t : Value) : Prop := ∀ (M : List Addr) (H : Hp) (v : V), A.p K M H v → TyX K H v t
theorem tyA_of {K : PySem.W.Frag} {A : AV} {t : String} (h : HasTy A t) : TyA K A (.type t) := fun M H v r => h K M H v r
theorem tyA_ins {K : PySem.W.Frag} {C : Addr} {fs : List (Str × AV)} (o : OwnTy K C) : TyA K (AL.ins C fs) (.ref C) := fun M H v ⟨a, dx, vs, e, t, n, r⟩ => by
  subst e
  exact .base (.ins t o.cls o.ha o.hn o.ht o.hm)
/-- isinstance(x, T), x of any type -/
theorem b_isi1 {P : Program} {w : World} {K : PySem.W.Frag} {mg : Str → Option Value} {base : Heap} {N : List Str} {sc : Scope} {df : Bool} {k : Nat} {X : Cx} {ρ : Rho} {m : Mem} {Kt : KA} {pos : Pos} {e : Expr} (a : At P w K mg base N sc df k X) {p : Pos} {c : Expr} (hg : sc.names.lookup ("isinstance" : Str) = some .globalImplicit) (hm : mg "isinstance" = none)
    (h : WA X [e, c] ρ m fun As m1 => ∃ A t T b, As = [A, val (.ty T)] ∧ TyA K A t ∧ PySem.W.kitOne K t (.type T) = some b ∧ Kt (AL.bool b) m1)
    (he : starEach (e :: [c]) X.env = (false, eval e X.env) :: starEach [c] X.env := by rfl) (hpl : (backTo pos (starEach [c] X.env)).any (·.1) = false := by rfl) : AL.WE X (.Call (.Name "isinstance" p) [e, c] [] pos) ρ m Kt := by
  intro fr σ H o Q g
  have hgl := gl_of a hg
  have hmm : X.mg "isinstance" = none := by rw [a.mt]; exact hm
  refine le_E (pe_callB call_isi hgl hmm (by decide +kernel) wpA_pa (by decide) (by decide) he hpl) ?_
  refine h fr σ H o _ fun As m1 vs H1 hh x1 o1 r1 => ?_
  obtain ⟨A, t, T, b, rfl, ht, hk, q⟩ := hh
  cases r1 with
  | cons ra r1 =>
    cases r1 with
    | cons rb r1 =>
      cases r1
      rw [a.kt] at *
      refine ⟨_, _, t, .type T, b, rfl, ?_, ht _ _ _ ra, hk, g _ m1 _ H1 q x1 o1 rfl⟩
      rw [show _ = V.ty T from rb]
      exact .ty T
theorem kit_own {K : PySem.W.Frag} {C : Addr} (h : PySem.W.mroIn K C (.type "tuple") = some false) : PySem.W.kitOne K (.ref C) (.type "tuple") = some false := by
  show (if ((Value.ref C) == (Value.type "tuple")) = true then some true else PySem.W.kitCls K (.ref C) (.type "tuple")) = some false
  rw [if_neg (by simp)]
  show (if PySem.W.kitMeta "tuple" = true then PySem.W.subIn K (.ref C) (.type "tuple") else none) = some false
  rw [if_pos (by decide +kernel)]
  exact h
/-- a thing that is no tuple -/
def NoTup (K : PySem.W.Frag) (A : AV) : Prop := ∃ t, TyA K A t ∧ PySem.W.kitOne K t (.type "tuple") = some false
theorem noTup_of {K : PySem.W.Frag} {A : AV} {t : String} (h : HasTy A t) (hk : kitB t "tuple" = some false) : NoTup K A := ⟨_, tyA_of h, kit_ty hk⟩
end EV
namespace HB
open PySem PySem.Spec L2 AL
open PyProof.Rows hiding St
section
variable {K : PySem.W.Frag}
theorem abs_two {g : Int → Int → Int} : AbsCall K (fun xs H Q => ∃ i j, xs = [V.int i, V.int j] ∧ Q (.int (g i j)) H) fun As m Kt => ∃ i j, As = [AL.int i, AL.int j] ∧ Kt (AL.int (g i j)) m := by
  rintro As m Kt fr ρ σ H vs Q ⟨i, j, rfl, q⟩ o r g
  cases r with
  | cons r1 t =>
    cases t with
    | cons r2 t =>
      cases t
      exact ⟨i, j, by rw [show _ = V.int i from r1, show _ = V.int j from r2], g _ m _ H q (.refl _ _) o rfl⟩
end
section
variable {P : Program} {w : World} {K : PySem.W.Frag} {mg : Str → Option Value} {base : Heap}
variable {N : List Str} {sc : Scope} {df : Bool} {k : Nat} {X : Cx} {ρ : Rho} {m : Mem} {Kt : KA} {pos : Pos} {e f : Expr}
variable (a : At P w K mg base N sc df k X)
include a in
theorem b_max {p : Pos} (hg : sc.names.lookup ("max" : Str) = some .globalImplicit) (hm : mg "max" = none) (h : WA X [e, f] ρ m fun As m1 => ∃ i j, As = [AL.int i, AL.int j] ∧ Kt (AL.int (if j > i then j else i)) m1) (he : starEach (e :: [f]) X.env = (false, eval e X.env) :: starEach [f] X.env := by rfl) (hpl : (backTo pos (starEach [f] X.env)).any (·.1) = false := by rfl) : AL.WE X (.Call (.Name "max" p) [e, f] [] pos) ρ m Kt :=
  we_callB a (call_max2 a.calm) abs_two hg hm (by decide +kernel) h (by decide) (by decide) he hpl
include a in
theorem b_min {p : Pos} (hg : sc.names.lookup ("min" : Str) = some .globalImplicit) (hm : mg "min" = none) (h : WA X [e, f] ρ m fun As m1 => ∃ i j, As = [AL.int i, AL.int j] ∧ Kt (AL.int (if j < i then j else i)) m1) (he : starEach (e :: [f]) X.env = (false, eval e X.env) :: starEach [f] X.env := by rfl) (hpl : (backTo pos (starEach [f] X.env)).any (·.1) = false := by rfl) : AL.WE X (.Call (.Name "min" p) [e, f] [] pos) ρ m Kt :=
  we_callB a (call_min2 a.calm) abs_two hg hm (by decide +kernel) h (by decide) (by decide) he hpl
end
end HB
namespace EV
open PySem PySem.Spec L2 AL
open PyProof.Rows hiding St
theorem we_lst {X : Cx} {es : List Expr} {pos : Pos} {ρ : Rho} {m : Mem} {Kt : KA} (h : WA X es ρ m fun As m1 => As.length ≤ 1000 ∧ Kt (lst As) m1) : AL.WE X (.List es pos) ρ m Kt := WN.we (wn_list h)
end EV
namespace EV
open PySem PySem.Spec L2 AL HB
open PyProof.Rows hiding St
def made : PV := match mkC 0 [.int 1, .lst [.int 0, .int 2], .lst [.int (-1), .int 1]] with
  | some l => .ins 0 l
  | none => .non
def calm : PV := match mkC 0 [.int 0, .lst [.int 0, .int 2], .lst [.int 3]] with
  | some l => .ins 0 l
  | none => .non
def T2 (a b : Int) : PV := .tup [.int a, .int b]
def bads : List PV := [T2 1 0, T2 2 4, .tup [.bl true, .int 1], T2 1 (-2), .tup [.int 1, .int 1, .int 1], .str "1", .non, .lst [.int 1, .int 1], .tup [.int 1], .tup [.non, .int 1], .int (-1), .int 2, .int 0, .bl true]
abbrev cf31 : Nat → List CV → Option PV := callM tabD mkC globD fuel fsN deep
def yesC (n : Nat) (vs : List CV) : Bool := match cf31 n vs with
  | some (.bl true) => true
  | _ => false
theorem yesC_eq {n : Nat} {vs : List CV} (h : yesC n vs = true) : cf31 n vs = some (.bl true) := by
  unfold yesC at h
  split at h
  · assumption
  · cases h
set_option maxHeartbeats 0 in
theorem odd_all : (bads.all fun o => yesC 53 [.p made, .p calm, .p o]) = true := by decide +kernel
def someC (n : Nat) (vs : List CV) : Bool := (cf31 n vs).isSome
theorem found_made : someC 43 [.p made] = true := by decide +kernel
def lawT : Fns := ⟨cf31, mkC, globD⟩
/-- the law's slots: what is known by heart -/
def r0 : Ev := List.replicate 10 none
def r1 : Ev := [none, none, none, none, none, some (.p made), some (.p calm), none, none, none]
def ct0 : CE := .cmp .isn (.cast (.call 45 (.cons (.cast (.var 5)) (.cons (.tup (.cons (.tup (.cons (.tup (.cons (.const (.int 0)) (.cons (.const (.int 1)) .nil))) (.cons (.tup (.cons (.const (.int 2)) (.cons (.const (.int 1)) .nil))) (.cons (.tup (.cons (.const (.int 2)) (.cons (.const (.int 1)) .nil))) .nil)))) .nil)) .nil)))) (.const (.bl false))
theorem vt0 : tst lawT ct0 r1 = some false := by decide +kernel
def ct1 : CE := .cmp .isn (.cast (.call 45 (.cons (.cast (.var 5)) (.cons (.tup (.cons (.tup (.cons (.tup (.cons (.const (.int 1)) (.cons (.const (.int 1)) .nil))) .nil)) .nil)) .nil)))) (.const (.bl false))
theorem vt1 : tst lawT ct1 r1 = some false := by decide +kernel
def ct2 : CE := .cmp .isn (.cast (.call 49 (.cons (.cast (.var 6)) (.cons (.tup (.cons (.tup (.cons (.const (.int 1)) (.cons (.const (.int 1)) .nil))) (.cons (.const (.int 1)) .nil))) .nil)))) (.const (.bl false))
theorem vt2 : tst lawT ct2 r1 = some false := by decide +kernel
def ct3 : CE := .cmp .isn (.cast (.call 49 (.cons (.cast (.var 6)) (.cons (.tup (.cons (.tup (.cons (.const (.int 1)) (.cons (.const (.int 2)) .nil))) (.cons (.const (.int 1)) .nil))) .nil)))) (.const (.bl true))
theorem vt3 : tst lawT ct3 r1 = some false := by decide +kernel
def ct4 : CE := .cmp .isn (.cast (.call 45 (.cons (.cast (.var 5)) (.cons (.tup (.cons (.tup (.cons (.const (.int 0)) (.cons (.const (.int 2)) .nil))) .nil)) .nil)))) (.const (.bl true))
theorem vt4 : tst lawT ct4 r1 = some false := by decide +kernel
def ct5 : CE := .cmp .isn (.cast (.call 45 (.cons (.cast (.var 6)) (.cons (.tup (.nil)) .nil)))) (.const (.bl true))
theorem vt5 : tst lawT ct5 r1 = some false := by decide +kernel
def ct6 : CE := .cmp .isn (.cast (.call 50 (.cons (.cast (.var 5)) (.cons (.tup (.cons (.tup (.cons (.const (.int 1)) (.cons (.const (.int 2)) .nil))) .nil)) .nil)))) (.const (.bl true))
theorem vt6 : tst lawT ct6 r1 = some false := by decide +kernel
def ct7 : CE := .cmp .isn (.cast (.call 50 (.cons (.cast (.var 5)) (.cons (.tup (.cons (.const (.int 1)) .nil)) .nil)))) (.const (.bl false))
theorem vt7 : tst lawT ct7 r1 = some false := by decide +kernel
def cret : CE := .and (.cmp .is (.cast (.call 49 (.cons (.cast (.var 6)) (.cons (.tup (.nil)) .nil)))) (.const (.bl true))) (.and (.cmp .is (.cast (.call 50 (.cons (.cast (.var 5)) (.cons (.tup (.nil)) .nil)))) (.const (.bl true))) (.cmp .is (.cast (.call 49 (.cons (.cast (.var 5)) (.cons (.tup (.nil)) .nil)))) (.const (.bl false))))
theorem vret : vlu lawT cret r1 (.bl true) = true := by decide +kernel
def cm : CE := .make 0 (.cons (.const (.int 1)) (.cons (.lst (.cons (.const (.int 0)) (.cons (.const (.int 2)) .nil))) (.cons (.lst (.cons (.neg (.const (.int 1))) (.cons (.const (.int 1)) .nil))) .nil)))
theorem vm : vlu lawT cm r0 made = true := by decide +kernel
def cc : CE := .make 0 (.cons (.const (.int 0)) (.cons (.lst (.cons (.const (.int 0)) (.cons (.const (.int 2)) .nil))) (.cons (.lst (.cons (.const (.int 3)) .nil)) .nil)))
theorem vc : vlu lawT cc r0 calm = true := by decide +kernel
def cb : CE := .lst (.cons (.tup (.cons (.const (.int 1)) (.cons (.const (.int 0)) .nil))) (.cons (.tup (.cons (.const (.int 2)) (.cons (.const (.int 4)) .nil))) (.cons (.tup (.cons (.const (.bl true)) (.cons (.const (.int 1)) .nil))) (.cons (.tup (.cons (.const (.int 1)) (.cons (.neg (.const (.int 2))) .nil))) (.cons (.tup (.cons (.const (.int 1)) (.cons (.const (.int 1)) (.cons (.const (.int 1)) .nil)))) (.cons (.const (.str "1")) (.cons (.const .non) (.cons (.lst (.cons (.const (.int 1)) (.cons (.const (.int 1)) .nil))) (.cons (.tup (.cons (.const (.int 1)) .nil)) (.cons (.tup (.cons (.const .non) (.cons (.const (.int 1)) .nil))) (.cons (.bin .sub (.const (.int 0)) (.const (.int 1))) (.cons (.const (.int 2)) (.cons (.const (.int 0)) (.cons (.const (.bl true)) .nil))))))))))))))
theorem vb : vlu lawT cb r1 (.lst bads) = true := by decide +kernel
section
variable {P : Program} {w : World} {K : PySem.W.Frag} {mg : Str → Option Value} {base : Heap} (Z : Blt mg)
def AnyV (K : PySem.W.Frag) (B : AV) : Prop := HasTy B "tuple" ∨ NoTup K B
/-! a thing that is no tuple is no paper -/
def C_noPap (K : PySem.W.Frag) (M : AV) : CT := fun As m Kt => ∃ B, As = [M, B] ∧ NoTup K B ∧ Kt (AL.bool false) m
include Z in
theorem F_ph {M : AV} {j : Nat} (GF : FnC P w K mg base j "found_places" (fun As m Kt => As = [M] ∧ ∀ B, Kt B m)) {f : Addr} {fd : FuncData} (F : Fun K "places_hold" "places_hold" s_f_places_hold f fd) (hm : mg "places_hold" = some (.ref f)) (hb : Binds K fd ["bend", "value"] []) : FnC P w K mg base (j + 1) "places_hold" (C_noPap K M) := by
  refine fnC F sc_f_places_hold hm hb (fun As m Kt ⟨B, h, _⟩ => by rw [h]; rfl) fun X a As m Kt ⟨B, e1, hB, q⟩ => ?_
  subst e1
  obtain ⟨t, ht, hk⟩ := hB
  refine wss_cons ?_
  refine ws_set a 2 rfl (.inr ⟨rfl, rfl⟩) ?_
  refine we_callW a GF (Nat.le_refl _) rfl ?_
  refine wa_cons ?_
  refine we_name a 0 rfl (.inr (.inl rfl)) rfl ?_
  refine wa_nil ?_
  refine ⟨rfl, fun _ => ?_⟩
  refine wss_cons ?_
  refine ws_if ?_
  refine wt_of ?_
  refine ww_or ?_
  refine wt_not ?_
  refine wt_val ?_
  refine b_isi1 a rfl Z.isi ?_
  refine wa_cons ?_
  refine we_name a 1 rfl (.inl rfl) rfl ?_
  refine wa_cons ?_
  refine g_tuple a Z rfl ?_
  refine wa_nil ?_
  refine ⟨B, t, "tuple", false, rfl, ht, hk, ?_⟩
  refine ⟨_, rfl, ?_⟩
  refine brT rfl ?_
  refine brT rfl ?_
  refine wss_cons ?_
  refine ws_ret ?_
  refine we_bool ?_
  exact bodyE.ret q
include Z in
theorem F_arecuts {M : AV} {j : Nat} {f : Addr} {fd : FuncData} (F : Fun K "_are_cuts" "_are_cuts" s_f__are_cuts f fd) (hm : mg "_are_cuts" = some (.ref f)) (hb : Binds K fd ["bend", "thing"] []) : FnC P w K mg base (j + 1) "_are_cuts" (C_noPap K M) := by
  refine fnC F sc_f__are_cuts hm hb (fun As m Kt ⟨B, h, _⟩ => by rw [h]; rfl) fun X a As m Kt ⟨B, e1, hB, q⟩ => ?_
  subst e1
  obtain ⟨t, ht, hk⟩ := hB
  refine wss_cons ?_
  refine ws_if ?_
  refine wt_of ?_
  refine ww_or ?_
  refine wt_not ?_
  refine wt_val ?_
  refine b_isi1 a rfl Z.isi ?_
  refine wa_cons ?_
  refine we_name a 1 rfl (.inl rfl) rfl ?_
  refine wa_cons ?_
  refine g_tuple a Z rfl ?_
  refine wa_nil ?_
  refine ⟨B, t, "tuple", false, rfl, ht, hk, ?_⟩
  refine ⟨_, rfl, ?_⟩
  refine brT rfl ?_
  refine brT rfl ?_
  refine wss_cons ?_
  refine ws_ret ?_
  refine we_bool ?_
  exact bodyE.ret q
theorem F_cov {M : AV} {j : Nat} (G : FnC P w K mg base j "_are_cuts" (C_noPap K M)) {f : Addr} {fd : FuncData} (F : Fun K "cover_holds" "cover_holds" s_f_cover_holds f fd) (hm : mg "cover_holds" = some (.ref f)) (hb : Binds K fd ["bend", "value"] []) : FnC P w K mg base (j + 1) "cover_holds" (C_noPap K M) := by
  refine fnC F sc_f_cover_holds hm hb (fun As m Kt ⟨B, h, _⟩ => by rw [h]; rfl) fun X a As m Kt ⟨B, e1, hB, q⟩ => ?_
  subst e1
  refine wss_cons ?_
  refine ws_if ?_
  refine wt_not ?_
  refine wt_val ?_
  refine we_callW a G (Nat.le_refl _) rfl ?_
  refine wa_cons ?_
  refine we_name a 0 rfl (.inl rfl) rfl ?_
  refine wa_cons ?_
  refine we_name a 1 rfl (.inl rfl) rfl ?_
  refine wa_nil ?_
  refine ⟨B, rfl, hB, ?_⟩
  refine ⟨_, rfl, ?_⟩
  refine brT rfl ?_
  refine wss_cons ?_
  refine ws_ret ?_
  refine we_bool ?_
  exact bodyE.ret q
theorem F_cnt {M : AV} {j : Nat} (G : FnC P w K mg base j "_are_cuts" (C_noPap K M)) {f : Addr} {fd : FuncData} (F : Fun K "count_holds" "count_holds" s_f_count_holds f fd) (hm : mg "count_holds" = some (.ref f)) (hb : Binds K fd ["bend", "value"] []) : FnC P w K mg base (j + 1) "count_holds" (C_noPap K M) := by
  refine fnC F sc_f_count_holds hm hb (fun As m Kt ⟨B, h, _⟩ => by rw [h]; rfl) fun X a As m Kt ⟨B, e1, hB, q⟩ => ?_
  subst e1
  refine wss_cons ?_
  refine ws_if ?_
  refine wt_not ?_
  refine wt_val ?_
  refine we_callW a G (Nat.le_refl _) rfl ?_
  refine wa_cons ?_
  refine we_name a 0 rfl (.inl rfl) rfl ?_
  refine wa_cons ?_
  refine we_name a 1 rfl (.inl rfl) rfl ?_
  refine wa_nil ?_
  refine ⟨B, rfl, hB, ?_⟩
  refine ⟨_, rfl, ?_⟩
  refine brT rfl ?_
  refine wss_cons ?_
  refine ws_ret ?_
  refine we_bool ?_
  exact bodyE.ret q
/-! draws -/
def C_pick31 : CT := fun As m Kt => ∃ (p q : Addr) (cs : List Int) (b : Int) (L : List AV), As = [val (.ref p), lst L] ∧ m = dealC p q cs b ∧ cs.length ≤ 1000 ∧ L ≠ [] ∧ L.length < 1000 ∧ ∀ B ∈ L, ∀ (cs' : List Int) b', cs'.length ≤ 1000 → Kt B (dealC p q cs' b')
abbrev s_law_pick : Stmt := topS 89
theorem sc_law_pick : FnScope ["_law_deal_here", "_law_some"] ["_law_deal_here", "_law_some"] (defScope s_law_pick) := ⟨rfl, rfl, rfl, by decide +kernel, rfl, by decide +kernel, by decide +kernel⟩
include Z in
theorem F_pick31 (G : FnC P w K mg base 1 "_law_draw" C_ldraw) {f : Addr} {fd : FuncData} (F : Fun K "_law_pick" "_law_pick" s_law_pick f fd) (hm : mg "_law_pick" = some (.ref f)) (hb : Binds K fd ["_law_deal_here", "_law_some"] []) : FnC P w K mg base 2 "_law_pick" C_pick31 := by
  refine fnC F sc_law_pick hm hb (fun As m Kt ⟨p, q, cs, b, L, h, _⟩ => by rw [h]; rfl) fun X a As m Kt ⟨p, q, cs, b, L, e1, em, hc, hL, hl, k⟩ => ?_
  subst e1 em
  have hpos : 0 < L.length := List.length_pos_iff.mpr hL
  refine wss_cons ?_
  refine ws_ret ?_
  refine we_ix ?_
  refine we_name a 1 rfl (.inl rfl) rfl ?_
  refine we_callW a G (by decide) rfl ?_
  refine wa_cons ?_
  refine we_name a 0 rfl (.inl rfl) rfl ?_
  refine wa_cons ?_
  refine b_len a Z rfl ?_
  refine wa_cons ?_
  refine we_name a 1 rfl (.inl rfl) rfl ?_
  refine wa_nil ?_
  refine ⟨_, _, rfl, isSq_lst, ?_⟩
  refine wa_nil ?_
  refine ⟨p, q, cs, b, _, rfl, rfl, hc, by omega, by omega, fun x cs' b' x0 x1 hc' => ?_⟩
  obtain ⟨j, rfl⟩ : ∃ j : Nat, x = (j : Int) := ⟨x.toNat, by omega⟩
  have hj : j < L.length := by omega
  refine ⟨L, _, L[j], isSq_lst, rfl, ?_, bodyE.ret (k L[j] (List.getElem_mem hj) cs' b' hc')⟩
  simp only [L2.atI, L2.ixN]
  rw [if_pos (by omega), if_pos (by omega), Int.toNat_natCast]
  simp [hj]
def C_any (K : PySem.W.Frag) (n : Nat) : CT := fun As m Kt => ∃ (p q : Addr) (cs : List Int) (b : Int) (M : AV), As = [val (.ref p), AL.int n, M] ∧ m = dealC p q cs b ∧ cs.length ≤ 1000 ∧ NoTup K M ∧ ∀ B, AnyV K B → ∀ (cs' : List Int) b', cs'.length ≤ 1000 → Kt B (dealC p q cs' b')
abbrev s_law_any : Stmt := topS 85
abbrev N_law_any : List Str := ["_law_deal_here", "_law_deep", "_law_made", "_law_form", "_law_some", "_law_turn"]
theorem sc_law_any : FnScope N_law_any ["_law_deal_here", "_law_deep", "_law_made"] (defScope s_law_any) := ⟨rfl, rfl, rfl, by decide +kernel, rfl, by decide +kernel, by decide +kernel⟩
theorem any_tup {K : PySem.W.Frag} {L : List AV} : AnyV K (AL.tup L) := .inl ty_tup
theorem any_lst {K : PySem.W.Frag} {L : List AV} : AnyV K (AL.lst L) := .inr (noTup_of ty_lst (by decide +kernel))
theorem any_int {K : PySem.W.Frag} {i : Int} : AnyV K (AL.int i) := .inr (noTup_of ty_int (by decide +kernel))
theorem any_str {K : PySem.W.Frag} {i : Str} : AnyV K (AL.str i) := .inr (noTup_of ty_str (by decide +kernel))
theorem any_bool {K : PySem.W.Frag} {i : Bool} : AnyV K (AL.bool i) := .inr (noTup_of ty_bool (by decide +kernel))
theorem any_non {K : PySem.W.Frag} : AnyV K AL.non := .inr (noTup_of ty_non (by decide +kernel))
include Z in
theorem any_body (GD : FnC P w K mg base 1 "_law_draw" C_ldraw) (GP : FnC P w K mg base 2 "_law_pick" C_pick31) {f : Addr} {fd : FuncData} (F : Fun K "_law_any" "_law_any" s_law_any f fd) (hm : mg "_law_any" = some (.ref f)) (hb : Binds K fd ["_law_deal_here", "_law_deep", "_law_made"] []) (n : Nat) (ih : 0 < n → FnC P w K mg base (n + 2) "_law_any" (C_any K (n - 1))) : FnC P w K mg base (n + 3) "_law_any" (C_any K n) := by
  refine fnC F sc_law_any hm hb (fun As m Kt ⟨p, q, cs, b, M, h, _⟩ => by rw [h]; rfl) fun X a As m Kt ⟨p, q, cs, b, M, e1, em, hc, hM, k⟩ => ?_
  subst e1 em
  refine wss_cons ?_
  refine ws_set a 3 rfl (.inl rfl) ?_
  refine we_callW a GD (by omega) rfl ?_
  refine wa_cons ?_
  refine we_name a 0 rfl (.inr (.inl rfl)) rfl ?_
  refine wa_cons ?_
  refine we_int ?_
  refine wa_nil ?_
  refine ⟨p, q, cs, b, _, rfl, rfl, hc, by decide, by decide, fun fo cs1 b1 _ _ hc1 => ?_⟩
  have last : ∀ (cs1 : List Int) (b1 : Int) (y4 : Option AV), cs1.length ≤ 1000 → WSs X ((defBody s_law_any).drop 2) [some (val (.ref p)), some (AL.int n), some M, some (AL.int fo), y4, none] (dealC p q cs1 b1) (bodyE Kt) := by
    intro cs1 b1 y4 hc1
    refine wss_cons ?_
    refine ws_ret ?_
    refine we_callW a GP (by omega) rfl ?_
    refine wa_cons ?_
    refine we_name a 0 rfl (.inr (.inl rfl)) rfl ?_
    refine wa_cons ?_
    refine we_lst ?_
    refine wa_cons ?_
    refine we_none ?_
    refine wa_cons ?_
    refine we_bool ?_
    refine wa_cons ?_
    refine we_bool ?_
    refine wa_cons ?_
    refine we_str ?_
    refine wa_cons ?_
    refine we_str ?_
    refine wa_cons ?_
    refine we_tup ?_
    refine wa_cons ?_
    refine we_int ?_
    refine wa_cons ?_
    refine we_int ?_
    refine wa_nil ?_
    refine ⟨by show 2 ≤ 1000; decide, ?_⟩
    refine wa_cons ?_
    refine we_tup ?_
    refine wa_cons ?_
    refine we_int ?_
    refine wa_cons ?_
    refine we_int ?_
    refine wa_nil ?_
    refine ⟨by show 2 ≤ 1000; decide, ?_⟩
    refine wa_cons ?_
    refine we_tup ?_
    refine wa_cons ?_
    refine we_bool ?_
    refine wa_cons ?_
    refine we_int ?_
    refine wa_nil ?_
    refine ⟨by show 2 ≤ 1000; decide, ?_⟩
    refine wa_cons ?_
    refine we_tup ?_
    refine wa_cons ?_
    refine we_int ?_
    refine wa_cons ?_
    refine we_bool ?_
    refine wa_nil ?_
    refine ⟨by show 2 ≤ 1000; decide, ?_⟩
    refine wa_cons ?_
    refine we_tup ?_
    refine wa_cons ?_
    refine we_int ?_
    refine wa_cons ?_
    refine we_neg ?_
    refine we_int ?_
    refine ⟨_, rfl, ?_⟩
    refine wa_nil ?_
    refine ⟨by show 2 ≤ 1000; decide, ?_⟩
    refine wa_cons ?_
    refine we_name a 2 rfl (.inr (.inl rfl)) rfl ?_
    refine wa_cons ?_
    refine we_pow ?_
    refine we_int ?_
    refine we_int ?_
    refine ⟨_, _, rfl, rfl, by unfold CPow; decide, ?_⟩
    refine wa_nil ?_
    refine ⟨by show 12 ≤ 1000; decide, ?_⟩
    refine wa_nil ?_
    refine ⟨p, q, cs1, b1, _, rfl, rfl, hc1, by simp, by show 12 < 1000; decide, fun B hB cs' b' hc' => ?_⟩
    refine bodyE.ret (k B ?_ cs' b' hc')
    simp only [List.mem_cons, List.not_mem_nil, or_false] at hB
    rcases hB with rfl | rfl | rfl | rfl | rfl | rfl | rfl | rfl | rfl | rfl | rfl | rfl
    · exact any_non
    · exact any_bool
    · exact any_bool
    · exact any_str
    · exact any_str
    · exact any_tup
    · exact any_tup
    · exact any_tup
    · exact any_tup
    · exact any_tup
    · exact .inr hM
    · exact any_int
  refine wss_cons ?_
  refine ws_if ?_
  refine wt_of ?_
  refine ww_and ?_
  refine wt_icmp op_lt rfl ?_
  refine we_name a 3 rfl (.inl rfl) rfl ?_
  refine we_int ?_
  refine ⟨_, _, rfl, rfl, ?_⟩
  refine br (fun h1 => ?_) (fun h1 => ?_)
  · refine ww_and1 ?_
    refine wt_icmp op_gt rfl ?_
    refine we_name a 1 rfl (.inr (.inl rfl)) rfl ?_
    refine we_int ?_
    refine ⟨_, _, rfl, rfl, ?_⟩
    refine br (fun h2 => ?_) (fun h2 => ?_)
    · have hn : 0 < n := by
        have := of_decide_eq_true h2
        omega
      have GA := ih hn
      refine wss_cons ?_
      refine ws_lc1 a 4 5 rfl rfl rfl rfl rfl (by decide +kernel) rfl rfl ?_
      refine wi_range1 a rfl Z.range ?_
      refine we_callW a GD (by omega) rfl ?_
      refine wa_cons ?_
      refine we_name a 0 rfl (.inr (.inl rfl)) rfl ?_
      refine wa_cons ?_
      refine we_int ?_
      refine wa_nil ?_
      refine ⟨p, q, cs1, b1, _, rfl, rfl, hc1, by decide, by decide, fun r cs2 b2 r0 r1 hc2 => ?_⟩
      refine ⟨r, rfl, by omega, ?_⟩
      refine ⟨by rw [rangeA_len]; omega, fun i acc m' => ∃ (cs : List Int) (b : Int), cs.length ≤ 1000 ∧ m' = dealC p q cs b, ⟨cs2, b2, hc2, rfl⟩, fun i acc m2 A hA hW X' hX => ?_, fun acc m2 hW => ?_⟩
      · obtain ⟨cs3, b3, hc3, rfl⟩ := hW
        have b := hX.at_ a
        refine we_callW b GA (by omega) rfl ?_
        refine wa_cons ?_
        refine we_name b 0 rfl (.inr (.inl rfl)) rfl ?_
        refine wa_cons ?_
        refine we_sub ?_
        refine we_name b 1 rfl (.inr (.inl rfl)) rfl ?_
        refine we_int ?_
        refine ⟨_, _, rfl, rfl, ?_⟩
        refine wa_cons ?_
        refine we_name b 2 rfl (.inr (.inl rfl)) rfl ?_
        refine wa_nil ?_
        have en : (n : Int) - 1 = ((n - 1 : Nat) : Int) := by omega
        rw [en]
        refine ⟨p, q, cs3, b3, M, rfl, rfl, hc3, hM, fun B _ cs' b' hc' => ?_⟩
        exact ⟨cs', b', hc', rfl⟩
      · obtain ⟨cs3, b3, hc3, rfl⟩ := hW
        refine wss_cons ?_
        refine ws_ret ?_
        refine we_ifexp ?_
        refine wt_icmp op_eqI rfl ?_
        refine we_name a 3 rfl (.inl rfl) rfl ?_
        refine we_int ?_
        refine ⟨_, _, rfl, rfl, ?_⟩
        refine br (fun _ => ?_) (fun _ => ?_)
        · refine we_name a 4 rfl (.inl rfl) rfl ?_
          exact bodyE.ret (k _ any_lst cs3 b3 hc3)
        · refine b_tuple a Z rfl ?_
          refine wa_cons ?_
          refine we_name a 4 rfl (.inl rfl) rfl ?_
          refine wa_nil ?_
          refine .inl ⟨_, _, rfl, isLs_lst, ?_⟩
          exact bodyE.ret (k _ any_tup cs3 b3 hc3)
    · refine wss_nil ?_
      exact last _ _ _ hc1
  · refine wss_nil ?_
    exact last _ _ _ hc1
include Z in
theorem F_any (GD : FnC P w K mg base 1 "_law_draw" C_ldraw) (GP : FnC P w K mg base 2 "_law_pick" C_pick31) {f : Addr} {fd : FuncData} (F : Fun K "_law_any" "_law_any" s_law_any f fd) (hm : mg "_law_any" = some (.ref f)) (hb : Binds K fd ["_law_deal_here", "_law_deep", "_law_made"] []) : ∀ n : Nat, FnC P w K mg base (n + 3) "_law_any" (C_any K n) := by
  intro n
  induction n with
  | zero => exact any_body Z GD GP F hm hb 0 (fun h => absurd h (by omega))
  | succ n ih => exact any_body Z GD GP F hm hb (n + 1) (fun _ => ih)
end
theorem repS0 {Z : Cls} {m : Mem} : ∀ {ρ : Rho}, ρ.length = 10 → RepE Z m [] r0 ρ
  | [_, _, _, _, _, _, _, _, _, _], _ => .cons trivial (.cons trivial (.cons trivial (.cons trivial (.cons trivial (.cons trivial (.cons trivial (.cons trivial (.cons trivial (.cons trivial .nil)))))))))
theorem repS1 {Z : Cls} {m : Mem} {y0 y1 y2 y3 y4 y7 y8 y9 : Option AV} : RepE Z m [] r1 [y0, y1, y2, y3, y4, some (absP Z made), some (absP Z calm), y7, y8, y9] :=
  .cons trivial (.cons trivial (.cons trivial (.cons trivial (.cons trivial (.cons (.p made) (.cons (.p calm) (.cons trivial (.cons trivial (.cons trivial .nil)))))))))
section
variable {A : Prog} (ok : ProgOk A) (eT : A.tab = tabD) (eM : A.make = mkC) (eG : A.glob = globD) (eF : A.F = fuel) (eS : A.S = tabS) (hf : Facts A fsN)
include eT eM eG eF in
theorem calls_eq : A.calls fsN deep = cf31 := by
  unfold Prog.calls cf31
  rw [eT, eM, eG, eF]
include eT eM eG eF in
theorem lawT_eq : (⟨A.calls fsN deep, A.make, A.glob⟩ : Fns) = lawT := by
  rw [calls_eq eT eM eG eF, eM, eG]; rfl
theorem made_noTup {K : PySem.W.Frag} {Z : Cls} (o : OwnTy K (Z.at_ 0)) {C : Addr} (hC : Z.at_ 0 = C) (hk : PySem.W.kitOne K (.ref C) (.type "tuple") = some false) : NoTup K (absP Z made) := by
  subst hC
  have e : ∃ l, made = .ins 0 l := ⟨_, rfl⟩
  obtain ⟨l, e⟩ := e
  rw [e, absP]
  exact ⟨_, tyA_ins o, hk⟩
include ok eT eM eG eF eS hf in
theorem found_of : FnC A.P A.w A.K A.mg A.base (12 + 3 * deep) "found_places" (fun As m Kt => As = [absP A.Z made] ∧ ∀ B, Kt B m) := by
  have F := fnc_of ok hf (d := deep) (n := 43) (x := "found_places") (by rw [eS]; rfl) (by rw [eT]; decide)
  obtain ⟨f, fd, ps, F, h1, h2, h3⟩ := F
  refine ⟨f, fd, ps, FnB.of (t := (f, fd, ps)) (fun As m Kt h => ⟨_, F, ?_⟩), h1, h2, h3⟩
  obtain ⟨rfl, k⟩ := h
  have hs := found_made
  unfold someC at hs
  obtain ⟨v, hv⟩ := Option.isSome_iff_exists.mp hs
  exact ⟨[.p made], v, .cons (.p made) .nil, by rw [calls_eq eT eM eG eF]; exact hv, k _⟩
set_option maxHeartbeats 0 in
include ok eT eM eG eF eS hf in
theorem F_law31 (Z : Blt A.mg) (hmx : A.mg "max" = none) (hmn : A.mg "min" = none) (hM : NoTup A.K (absP A.Z made))
    (GD : FnC A.P A.w A.K A.mg A.base 1 "_law_deal" C_deal) (GP : FnC A.P A.w A.K A.mg A.base 2 "_law_pick" C_pick31) (GA : FnC A.P A.w A.K A.mg A.base 9 "_law_any" (C_any A.K 6))
    (G1 : FnC A.P A.w A.K A.mg A.base (13 + 3 * deep) "places_hold" (C_noPap A.K (absP A.Z made))) (G2 : FnC A.P A.w A.K A.mg A.base 2 "cover_holds" (C_noPap A.K (absP A.Z calm))) (G3 : FnC A.P A.w A.K A.mg A.base 2 "count_holds" (C_noPap A.K (absP A.Z made)))
    (GO : FnC A.P A.w A.K A.mg A.base (12 + 3 * deep) "_law_odd_right" (C_call A.Z (A.calls fsN deep 53)))
    {f : Addr} {fd : FuncData} (F : Fun A.K "law" "law" s_f_law f fd) : FnOk A.P A.w A.K A.mg A.base CX0 (14 + 3 * deep + 1) f fd ["_law_script"] (spOf A.K C_lawE) := by
  have hT := lawT_eq eT eM eG eF
  refine fnOk F sc_f_law (fun As m Kt ⟨ns, e, _⟩ => by rw [e]; rfl) fun X a As m Kt ⟨ns, e1, em, q⟩ => ?_
  subst e1 em
  refine wss_cons ?_
  refine ws_for a (fun i ρ' m' => ∃ y1 y2 y3 y4 y5 y6 y7 y8 y9 : Option AV, ρ' = [some (scr (ns.map AL.int)), y1, y2, y3, y4, y5, y6, y7, y8, y9] ∧ (i = 0 ∨ y5 = some (absP A.Z made) ∧ y6 = some (absP A.Z calm))) ?_
  refine wi_range1 a rfl Z.range ?_
  refine b_max a rfl hmx ?_
  refine wa_cons ?_
  refine we_int ?_
  refine wa_cons ?_
  refine b_min a rfl hmn ?_
  refine wa_cons ?_
  refine we_int ?_
  refine wa_cons ?_
  refine b_len a Z rfl ?_
  refine wa_cons ?_
  refine we_name a 0 rfl (.inl rfl) rfl ?_
  refine wa_nil ?_
  refine ⟨_, _, rfl, isSq_scr, ?_⟩
  refine wa_nil ?_
  refine ⟨_, _, rfl, ?_⟩
  refine wa_nil ?_
  refine ⟨_, _, rfl, ?_⟩
  generalize hrn : (if (if (((ns.map AL.int).length : Nat) : Int) < 2 then (((ns.map AL.int).length : Nat) : Int) else 2) > 1 then (if (((ns.map AL.int).length : Nat) : Int) < 2 then (((ns.map AL.int).length : Nat) : Int) else 2) else 1) = rn
  have rn3 : 1 ≤ rn ∧ rn ≤ 2 := by
    rw [← hrn]
    split <;> split <;> omega
  refine ⟨_, rfl, by omega, ?_⟩
  refine ⟨⟨_, _, _, _, _, _, _, _, _, rfl, .inl rfl⟩, fun i B ρ' m' hB hW => ?_, fun ρ' m' hW => ?_⟩
  · obtain ⟨y1, y2, y3, y4, y5, y6, y7, y8, y9, rfl, _⟩ := hW
    obtain ⟨hi, rfl⟩ := rangeA_get hB
    refine wg_name a 1 rfl (.inl rfl) ?_
    refine wss_cons ?_
    refine ws_set a 2 rfl (.inl rfl) ?_
    refine we_call0 a GD (by omega) rfl ?_
    refine wa_cons ?_
    refine we_name a 0 rfl (.inl rfl) rfl ?_
    refine wa_cons ?_
    refine we_name a 1 rfl (.inl rfl) rfl ?_
    refine wa_nil ?_
    refine ⟨ns, _, rfl, rfl, fun p qq cs b hc => ?_⟩
    refine wss_cons ?_
    refine ws_par a 5 6 rfl rfl (by decide) rfl rfl rfl (by decide) (by decide) rfl rfl rfl ?_
    refine wa_cons ?_
    refine we_ev ok hf a cm made (ρc := r0) (repS0 rfl) (by rw [eS]; decide +kernel) (by rw [hT]; exact vm) ?_
    refine wa_cons ?_
    refine we_ev ok hf a cc calm (ρc := r0) (repS0 rfl) (by rw [eS]; decide +kernel) (by rw [hT]; exact vc) ?_
    refine wa_nil ?_
    refine ⟨_, _, rfl, ?_⟩
    refine wss_cons ?_
    refine ws_set a 3 rfl (.inl rfl) ?_
    refine we_ev ok hf a cb (.lst bads) (ρc := r1) repS1 (by rw [eS]; decide +kernel) (by rw [hT]; exact vb) ?_
    refine wss_cons ?_
    refine ws_for a (fun j ρ2 m2 => ∃ (cs : List Int) (b : Int) (y4 y7 y8 y9 : Option AV), cs.length ≤ 1000 ∧ m2 = dealC p qq cs b ++ m' ∧ ρ2 = [some (scr (ns.map AL.int)), some (AL.int (0 + (i : Int))), some (val (.ref p)), some (absP A.Z (.lst bads)), y4, some (absP A.Z made), some (absP A.Z calm), y7, y8, y9]) ?_
    refine wi_range1 a rfl Z.range ?_
    refine we_int ?_
    refine ⟨_, rfl, by decide, ?_⟩
    refine ⟨⟨cs, b, _, _, _, _, hc, rfl, rfl⟩, fun j Bt ρ2 m2 hBt hW => ?_, fun ρ2 m2 hW => ?_⟩
    · obtain ⟨cs, b, y4, y7, y8, y9, hc, rfl, rfl⟩ := hW
      obtain ⟨hj, rfl⟩ := rangeA_get hBt
      refine wg_name a 4 rfl (.inl rfl) ?_
      refine wss_cons ?_
      refine ws_set a 7 rfl (.inl rfl) ?_
      refine we_call a GA (by omega) rfl ?_
      refine wa_cons ?_
      refine we_name a 2 rfl (.inl rfl) rfl ?_
      refine wa_cons ?_
      refine we_int ?_
      refine wa_cons ?_
      refine we_name a 5 rfl (.inl rfl) rfl ?_
      refine wa_nil ?_
      refine ⟨dealC p qq cs b, m', rfl, p, qq, cs, b, _, rfl, rfl, hc, hM, fun One hOne cs b hc => ?_⟩
      refine wss_cons ?_
      refine ws_for a (fun _ ρ3 m3 => m3 = dealC p qq cs b ++ m' ∧ ∃ (y8 y9 : Option AV), ρ3 = [some (scr (ns.map AL.int)), some (AL.int (0 + (i : Int))), some (val (.ref p)), some (absP A.Z (.lst bads)), some (AL.int (0 + (j : Int))), some (absP A.Z made), some (absP A.Z calm), some One, y8, y9]) ?_
      refine wi_tup ?_
      refine we_tup ?_
      refine wa_cons ?_
      refine we_name a 7 rfl (.inl rfl) rfl ?_
      refine wa_cons ?_
      refine we_lst ?_
      refine wa_cons ?_
      refine we_name a 7 rfl (.inl rfl) rfl ?_
      refine wa_nil ?_
      refine ⟨by show 1 ≤ 1000; decide, ?_⟩
      refine wa_cons ?_
      refine we_none ?_
      refine wa_cons ?_
      refine we_int ?_
      refine wa_cons ?_
      refine we_str ?_
      refine wa_cons ?_
      refine we_name a 5 rfl (.inl rfl) rfl ?_
      refine wa_nil ?_
      refine ⟨by show 6 ≤ 1000; decide, ?_⟩
      refine ⟨_, rfl, ?_⟩
      refine ⟨⟨rfl, _, _, rfl⟩, fun t Bx ρ3 m3 hBx hW => ?_, fun ρ3 m3 hW => ?_⟩
      · obtain ⟨rfl, y8, y9, rfl⟩ := hW
        have hany : AnyV A.K Bx := by
          have hmem := List.mem_of_getElem? hBx
          simp only [List.mem_cons, List.not_mem_nil, or_false] at hmem
          rcases hmem with rfl | rfl | rfl | rfl | rfl | rfl
          · exact hOne
          · exact any_lst
          · exact any_non
          · exact any_int
          · exact any_str
          · exact .inr hM
        refine wg_name a 8 rfl (.inl rfl) ?_
        refine wss_cons ?_
        refine ws_if ?_
        refine wt_val ?_
        obtain ⟨tt, bb, htt, hkk, hbb⟩ : ∃ t b, TyA A.K Bx t ∧ PySem.W.kitOne A.K t (.type "tuple") = some b ∧ (b = false → NoTup A.K Bx) := by
          rcases hany with h | ⟨t, h1, h2⟩
          · exact ⟨_, true, tyA_of h, kit_ty (by decide +kernel), fun z => by cases z⟩
          · exact ⟨t, false, h1, h2, fun _ => ⟨t, h1, h2⟩⟩
        refine b_isi1 a rfl Z.isi ?_
        refine wa_cons ?_
        refine we_name a 8 rfl (.inl rfl) rfl ?_
        refine wa_cons ?_
        refine g_tuple a Z rfl ?_
        refine wa_nil ?_
        refine ⟨_, tt, "tuple", bb, rfl, htt, hkk, ?_⟩
        refine ⟨_, rfl, br (fun _ => ?_) (fun hno => ?_)⟩
        · refine wss_cons ?_
          refine ws_cont ?_
          exact ⟨rfl, _, _, rfl⟩
        have hno := hbb hno
        refine wss_nil ?_
        refine wss_cons ?_
        refine ws_set a 9 rfl (.inl rfl) ?_
        refine we_lst ?_
        refine wa_cons ?_
        refine we_call0 a G1 (by omega) rfl ?_
        refine wa_cons ?_
        refine we_name a 5 rfl (.inl rfl) rfl ?_
        refine wa_cons ?_
        refine we_name a 8 rfl (.inl rfl) rfl ?_
        refine wa_nil ?_
        refine ⟨_, rfl, hno, ?_⟩
        refine wa_cons ?_
        refine we_call0 a G2 (by omega) rfl ?_
        refine wa_cons ?_
        refine we_name a 6 rfl (.inl rfl) rfl ?_
        refine wa_cons ?_
        refine we_name a 8 rfl (.inl rfl) rfl ?_
        refine wa_nil ?_
        refine ⟨_, rfl, hno, ?_⟩
        refine wa_cons ?_
        refine we_call0 a G3 (by omega) rfl ?_
        refine wa_cons ?_
        refine we_name a 5 rfl (.inl rfl) rfl ?_
        refine wa_cons ?_
        refine we_name a 8 rfl (.inl rfl) rfl ?_
        refine wa_nil ?_
        refine ⟨_, rfl, hno, ?_⟩
        refine wa_nil ?_
        refine ⟨by show 3 ≤ 1000; decide, ?_⟩
        refine wss_cons ?_
        refine ws_if ?_
        refine wt_cmp (op_neD (hu_at a)) abs_neD rfl ?_
        refine we_name a 9 rfl (.inl rfl) rfl ?_
        refine we_lrep ?_
        refine we_lst ?_
        refine wa_cons ?_
        refine we_bool ?_
        refine wa_nil ?_
        refine ⟨by show 1 ≤ 1000; decide, ?_⟩
        refine we_int ?_
        refine ⟨_, 3, isLs_lst, rfl, by decide, by decide, by show 1 * 3 ≤ 1000; decide, ?_⟩
        refine ⟨.list [.bool false, .bool false, .bool false], .list [.bool false, .bool false, .bool false], isDat_ls isLs_lst (.cons isDat_bool (.cons isDat_bool (.cons isDat_bool .nil))), isDat_ls isLs_lst (.cons isDat_bool (.cons isDat_bool (.cons isDat_bool .nil))), by decide +kernel, by decide +kernel, ?_⟩
        refine ⟨_, rfl, brF (by decide +kernel) ?_⟩
        refine wss_nil ?_
        refine wss_nil ?_
        exact ⟨rfl, _, _, rfl⟩
      · obtain ⟨rfl, y8, y9, rfl⟩ := hW
        refine wss_cons ?_
        refine ws_if ?_
        refine wt_not ?_
        refine wt_val ?_
        refine we_call0 a GO (by omega) rfl ?_
        refine wa_cons ?_
        refine we_name a 5 rfl (.inl rfl) rfl ?_
        refine wa_cons ?_
        refine we_name a 6 rfl (.inl rfl) rfl ?_
        refine wa_cons ?_
        refine we_call a GP (by omega) rfl ?_
        refine wa_cons ?_
        refine we_name a 2 rfl (.inl rfl) rfl ?_
        refine wa_cons ?_
        refine we_name a 3 rfl (.inl rfl) rfl ?_
        refine wa_nil ?_
        refine ⟨dealC p qq cs b, m', rfl, p, qq, cs, b, absPs A.Z bads, by rw [absP], rfl, hc, by rw [absPs_map]; simp [bads], by rw [absPs_len]; decide, fun Bo hBo cs b hc => ?_⟩
        refine wa_nil ?_
        rw [absPs_map] at hBo
        obtain ⟨o, ho, rfl⟩ := List.mem_map.mp hBo
        have hyes := yesC_eq (List.all_eq_true.mp odd_all o ho)
        refine ⟨[.p made, .p calm, .p o], .bl true, .cons (.p made) (.cons (.p calm) (.cons (.p o) .nil)), by rw [calls_eq eT eM eG eF]; exact hyes, ?_⟩
        rw [absP]
        refine ⟨_, rfl, brF rfl (wss_nil ?_)⟩
        refine wss_cons ?_
        refine ws_if ?_
        refine wt_ev ok hf a ct0 (ρc := r1) repS1 (by rw [eS]; decide +kernel) rfl (by rw [hT]; exact vt0) (brF rfl (wss_nil ?_))
        refine wss_cons ?_
        refine ws_if ?_
        refine wt_ev ok hf a ct1 (ρc := r1) repS1 (by rw [eS]; decide +kernel) rfl (by rw [hT]; exact vt1) (brF rfl (wss_nil ?_))
        refine wss_cons ?_
        refine ws_if ?_
        refine wt_ev ok hf a ct2 (ρc := r1) repS1 (by rw [eS]; decide +kernel) rfl (by rw [hT]; exact vt2) (brF rfl (wss_nil ?_))
        refine wss_cons ?_
        refine ws_if ?_
        refine wt_ev ok hf a ct3 (ρc := r1) repS1 (by rw [eS]; decide +kernel) rfl (by rw [hT]; exact vt3) (brF rfl (wss_nil ?_))
        refine wss_nil ?_
        exact ⟨cs, b, _, _, _, _, hc, rfl, rfl⟩
    · obtain ⟨cs, b, y4, y7, y8, y9, hc, rfl, rfl⟩ := hW
      refine wss_cons ?_
      refine ws_if ?_
      refine wt_ev ok hf a ct4 (ρc := r1) repS1 (by rw [eS]; decide +kernel) rfl (by rw [hT]; exact vt4) (brF rfl (wss_nil ?_))
      refine wss_cons ?_
      refine ws_if ?_
      refine wt_ev ok hf a ct5 (ρc := r1) repS1 (by rw [eS]; decide +kernel) rfl (by rw [hT]; exact vt5) (brF rfl (wss_nil ?_))
      refine wss_cons ?_
      refine ws_if ?_
      refine wt_ev ok hf a ct6 (ρc := r1) repS1 (by rw [eS]; decide +kernel) rfl (by rw [hT]; exact vt6) (brF rfl (wss_nil ?_))
      refine wss_cons ?_
      refine ws_if ?_
      refine wt_ev ok hf a ct7 (ρc := r1) repS1 (by rw [eS]; decide +kernel) rfl (by rw [hT]; exact vt7) (brF rfl (wss_nil ?_))
      refine wss_nil ?_
      exact ⟨_, _, _, _, _, _, _, _, _, rfl, .inr ⟨rfl, rfl⟩⟩
  · obtain ⟨y1, y2, y3, y4, y5, y6, y7, y8, y9, rfl, h0⟩ := hW
    rcases h0 with h0 | ⟨rfl, rfl⟩
    · rw [rangeA_len] at h0
      omega
    refine wss_cons ?_
    refine ws_ret ?_
    refine we_ev ok hf a cret (.bl true) (ρc := r1) repS1 (by rw [eS]; decide +kernel) (by rw [hT]; exact vret) ?_
    rw [absP]
    exact bodyE.ret (q _)
end
end EV
namespace EV
open PySem PySem.Spec L2 AL HB
open PyProof.Rows hiding St
set_option maxHeartbeats 0 in
theorem all_mk {l : PySem.W.OpenLaw} {w : World} {K : PySem.W.Frag} {h : Heap} {mg : Str → Option Value} {fa C zz zo f0 f1 f2 f3 f4 f5 f6 f7 f8 f9 f10 f11 f12 f13 f14 f15 f16 f17 f18 f19 f20 f21 f22 f23 f24 f25 f26 f27 f28 f29 f30 f31 f32 f33 f34 f35 f36 f37 f38 f39 f40 f41 f42 f43 f44 f45 f46 f47 f48 f49 f50 f51 f52 f53 f54 f55 f56 f57 f58 f59 f60 f61 f62 f63 : Addr} (X : K.In h) (G : h.Ns mainGlobals mg) (hfa : mg "law" = some (.ref fa))
    {od0 an0 od1 an1 od2 an2 od3 an3 od4 an4 od5 an5 od6 an6 od7 an7 od8 an8 od9 an9 od10 an10 od11 an11 od12 an12 od13 an13 od14 an14 od15 an15 od16 an16 od17 an17 od18 an18 od19 an19 od20 an20 od21 an21 od22 an22 od23 an23 od24 an24 od25 an25 od26 an26 od27 an27 od28 an28 od29 an29 od30 an30 od31 an31 od32 an32 od33 an33 od34 an34 od35 an35 od36 an36 od37 an37 od38 an38 od39 an39 od40 an40 od41 an41 od42 an42 od43 an43 od44 an44 od45 an45 od46 an46 od47 an47 od48 an48 od49 an49 od50 an50 od51 an51 od52 an52 od53 an53 od54 an54 od55 an55 od56 an56 od57 an57 od58 an58 od59 an59 od60 an60 od61 an61 od62 an62 od63 an63 dzz dzo : Option Addr} {sl0 sl1 sl2 sl3 sl4 sl5 sl6 sl7 sl8 sl9 sl10 sl11 sl12 sl13 sl14 sl15 sl16 sl17 sl18 sl19 sl20 sl21 sl22 sl23 sl24 sl25 sl26 sl27 sl28 sl29 sl30 sl31 sl32 sl33 sl34 sl35 sl36 sl37 sl38 sl39 sl40 sl41 sl42 sl43 sl44 sl45 sl46 sl47 sl48 sl49 sl50 sl51 sl52 sl53 sl54 sl55 sl56 sl57 sl58 sl59 sl60 sl61 sl62 sl63 ezz ezo : Array (Option Value)} {mzz mzo : Nat} {szz tzz szo tzo : Tok} {oc0 kV0 dc0 pm0 cd0 ct0 oc1 kV1 dc1 pm1 cd1 ct1 oc2 kV2 dc2 pm2 cd2 ct2 oc3 kV3 dc3 pm3 cd3 ct3 oc4 kV4 dc4 pm4 cd4 ct4 oc5 kV5 dc5 pm5 cd5 ct5 oc6 kV6 dc6 pm6 cd6 ct6 oc7 kV7 dc7 pm7 cd7 ct7 oc8 kV8 dc8 pm8 cd8 ct8 oc9 kV9 dc9 pm9 cd9 ct9 oc10 kV10 dc10 pm10 cd10 ct10 oc11 kV11 dc11 pm11 cd11 ct11 oc12 kV12 dc12 pm12 cd12 ct12 oc13 kV13 dc13 pm13 cd13 ct13 oc14 kV14 dc14 pm14 cd14 ct14 oc15 kV15 dc15 pm15 cd15 ct15 oc16 kV16 dc16 pm16 cd16 ct16 oc17 kV17 dc17 pm17 cd17 ct17 oc18 kV18 dc18 pm18 cd18 ct18 oc19 kV19 dc19 pm19 cd19 ct19 oc20 kV20 dc20 pm20 cd20 ct20 oc21 kV21 dc21 pm21 cd21 ct21 oc22 kV22 dc22 pm22 cd22 ct22 oc23 kV23 dc23 pm23 cd23 ct23 oc24 kV24 dc24 pm24 cd24 ct24 oc25 kV25 dc25 pm25 cd25 ct25 oc26 kV26 dc26 pm26 cd26 ct26 oc27 kV27 dc27 pm27 cd27 ct27 oc28 kV28 dc28 pm28 cd28 ct28 oc29 kV29 dc29 pm29 cd29 ct29 oc30 kV30 dc30 pm30 cd30 ct30 oc31 kV31 dc31 pm31 cd31 ct31 oc32 kV32 dc32 pm32 cd32 ct32 oc33 kV33 dc33 pm33 cd33 ct33 oc34 kV34 dc34 pm34 cd34 ct34 oc35 kV35 dc35 pm35 cd35 ct35 oc36 kV36 dc36 pm36 cd36 ct36 oc37 kV37 dc37 pm37 cd37 ct37 oc38 kV38 dc38 pm38 cd38 ct38 oc39 kV39 dc39 pm39 cd39 ct39 oc40 kV40 dc40 pm40 cd40 ct40 oc41 kV41 dc41 pm41 cd41 ct41 oc42 kV42 dc42 pm42 cd42 ct42 oc43 kV43 dc43 pm43 cd43 ct43 oc44 kV44 dc44 pm44 cd44 ct44 oc45 kV45 dc45 pm45 cd45 ct45 oc46 kV46 dc46 pm46 cd46 ct46 oc47 kV47 dc47 pm47 cd47 ct47 oc48 kV48 dc48 pm48 cd48 ct48 oc49 kV49 dc49 pm49 cd49 ct49 oc50 kV50 dc50 pm50 cd50 ct50 oc51 kV51 dc51 pm51 cd51 ct51 oc52 kV52 dc52 pm52 cd52 ct52 oc53 kV53 dc53 pm53 cd53 ct53 oc54 kV54 dc54 pm54 cd54 ct54 oc55 kV55 dc55 pm55 cd55 ct55 oc56 kV56 dc56 pm56 cd56 ct56 oc57 kV57 dc57 pm57 cd57 ct57 oc58 kV58 dc58 pm58 cd58 ct58 oc59 kV59 dc59 pm59 cd59 ct59 oc60 kV60 dc60 pm60 cd60 ct60 oc61 kV61 dc61 pm61 cd61 ct61 oc62 kV62 dc62 pm62 cd62 ct62 oc63 kV63 dc63 pm63 cd63 ct63 : Value}
    (aC : PySem.W.nsIn K mainGlobals "Bend" = some (some (.ref C)))
    (a0 : PySem.W.nsIn K mainGlobals "is_whole" = some (some (.ref f0)))
    (l0 : K.lookup f0 = some ⟨oc0, od0, .func (PySem.W.fnOf "is_whole" "is_whole" (defArgs s_is_whole) (defBody s_is_whole) (defScope s_is_whole) .none kV0 dc0 pm0 an0 cd0 ct0), sl0⟩)
    (c0 : PySem.W.codeIn K cd0 "is_whole" = true)
    (k0 : PySem.W.keepIn K (.ref f0) = true)
    (a1 : PySem.W.nsIn K mainGlobals "is_sequence" = some (some (.ref f1)))
    (l1 : K.lookup f1 = some ⟨oc1, od1, .func (PySem.W.fnOf "is_sequence" "is_sequence" (defArgs s_is_sequence) (defBody s_is_sequence) (defScope s_is_sequence) .none kV1 dc1 pm1 an1 cd1 ct1), sl1⟩)
    (c1 : PySem.W.codeIn K cd1 "is_sequence" = true)
    (k1 : PySem.W.keepIn K (.ref f1) = true)
    (a2 : PySem.W.nsIn K mainGlobals "is_value" = some (some (.ref f2)))
    (l2 : K.lookup f2 = some ⟨oc2, od2, .func (PySem.W.fnOf "is_value" "is_value" (defArgs s_is_value) (defBody s_is_value) (defScope s_is_value) .none kV2 dc2 pm2 an2 cd2 ct2), sl2⟩)
    (c2 : PySem.W.codeIn K cd2 "is_value" = true)
    (k2 : PySem.W.keepIn K (.ref f2) = true)
    (a3 : PySem.W.nsIn K mainGlobals "are_values" = some (some (.ref f3)))
    (l3 : K.lookup f3 = some ⟨oc3, od3, .func (PySem.W.fnOf "are_values" "are_values" (defArgs s_are_values) (defBody s_are_values) (defScope s_are_values) .none kV3 dc3 pm3 an3 cd3 ct3), sl3⟩)
    (c3 : PySem.W.codeIn K cd3 "are_values" = true)
    (k3 : PySem.W.keepIn K (.ref f3) = true)
    (a4 : PySem.W.nsIn K mainGlobals "pair" = some (some (.ref f4)))
    (l4 : K.lookup f4 = some ⟨oc4, od4, .func (PySem.W.fnOf "pair" "pair" (defArgs s_pair) (defBody s_pair) (defScope s_pair) .none kV4 dc4 pm4 an4 cd4 ct4), sl4⟩)
    (c4 : PySem.W.codeIn K cd4 "pair" = true)
    (k4 : PySem.W.keepIn K (.ref f4) = true)
    (a5 : PySem.W.nsIn K mainGlobals "pairs" = some (some (.ref f5)))
    (l5 : K.lookup f5 = some ⟨oc5, od5, .func (PySem.W.fnOf "pairs" "pairs" (defArgs s_pairs) (defBody s_pairs) (defScope s_pairs) .none kV5 dc5 pm5 an5 cd5 ct5), sl5⟩)
    (c5 : PySem.W.codeIn K cd5 "pairs" = true)
    (k5 : PySem.W.keepIn K (.ref f5) = true)
    (a6 : PySem.W.nsIn K mainGlobals "ratio" = some (some (.ref f6)))
    (l6 : K.lookup f6 = some ⟨oc6, od6, .func (PySem.W.fnOf "ratio" "ratio" (defArgs s_ratio) (defBody s_ratio) (defScope s_ratio) .none kV6 dc6 pm6 an6 cd6 ct6), sl6⟩)
    (c6 : PySem.W.codeIn K cd6 "ratio" = true)
    (k6 : PySem.W.keepIn K (.ref f6) = true)
    (a7 : PySem.W.nsIn K mainGlobals "added" = some (some (.ref f7)))
    (l7 : K.lookup f7 = some ⟨oc7, od7, .func (PySem.W.fnOf "added" "added" (defArgs s_added) (defBody s_added) (defScope s_added) .none kV7 dc7 pm7 an7 cd7 ct7), sl7⟩)
    (c7 : PySem.W.codeIn K cd7 "added" = true)
    (k7 : PySem.W.keepIn K (.ref f7) = true)
    (a8 : PySem.W.nsIn K mainGlobals "taken" = some (some (.ref f8)))
    (l8 : K.lookup f8 = some ⟨oc8, od8, .func (PySem.W.fnOf "taken" "taken" (defArgs s_taken) (defBody s_taken) (defScope s_taken) .none kV8 dc8 pm8 an8 cd8 ct8), sl8⟩)
    (c8 : PySem.W.codeIn K cd8 "taken" = true)
    (k8 : PySem.W.keepIn K (.ref f8) = true)
    (a9 : PySem.W.nsIn K mainGlobals "multiplied" = some (some (.ref f9)))
    (l9 : K.lookup f9 = some ⟨oc9, od9, .func (PySem.W.fnOf "multiplied" "multiplied" (defArgs s_multiplied) (defBody s_multiplied) (defScope s_multiplied) .none kV9 dc9 pm9 an9 cd9 ct9), sl9⟩)
    (c9 : PySem.W.codeIn K cd9 "multiplied" = true)
    (k9 : PySem.W.keepIn K (.ref f9) = true)
    (a10 : PySem.W.nsIn K mainGlobals "divided" = some (some (.ref f10)))
    (l10 : K.lookup f10 = some ⟨oc10, od10, .func (PySem.W.fnOf "divided" "divided" (defArgs s_divided) (defBody s_divided) (defScope s_divided) .none kV10 dc10 pm10 an10 cd10 ct10), sl10⟩)
    (c10 : PySem.W.codeIn K cd10 "divided" = true)
    (k10 : PySem.W.keepIn K (.ref f10) = true)
    (a11 : PySem.W.nsIn K mainGlobals "total" = some (some (.ref f11)))
    (l11 : K.lookup f11 = some ⟨oc11, od11, .func (PySem.W.fnOf "total" "total" (defArgs s_total) (defBody s_total) (defScope s_total) .none kV11 dc11 pm11 an11 cd11 ct11), sl11⟩)
    (c11 : PySem.W.codeIn K cd11 "total" = true)
    (k11 : PySem.W.keepIn K (.ref f11) = true)
    (a12 : PySem.W.nsIn K mainGlobals "is_less" = some (some (.ref f12)))
    (l12 : K.lookup f12 = some ⟨oc12, od12, .func (PySem.W.fnOf "is_less" "is_less" (defArgs s_is_less) (defBody s_is_less) (defScope s_is_less) .none kV12 dc12 pm12 an12 cd12 ct12), sl12⟩)
    (c12 : PySem.W.codeIn K cd12 "is_less" = true)
    (k12 : PySem.W.keepIn K (.ref f12) = true)
    (a13 : PySem.W.nsIn K mainGlobals "_are_marks" = some (some (.ref f13)))
    (l13 : K.lookup f13 = some ⟨oc13, od13, .func (PySem.W.fnOf "_are_marks" "_are_marks" (defArgs s_are_marks) (defBody s_are_marks) (defScope s_are_marks) .none kV13 dc13 pm13 an13 cd13 ct13), sl13⟩)
    (c13 : PySem.W.codeIn K cd13 "_are_marks" = true)
    (k13 : PySem.W.keepIn K (.ref f13) = true)
    (a14 : PySem.W.nsIn K mainGlobals "handle_count" = some (some (.ref f14)))
    (l14 : K.lookup f14 = some ⟨oc14, od14, .func (PySem.W.fnOf "handle_count" "handle_count" (defArgs s_handle_count) (defBody s_handle_count) (defScope s_handle_count) .none kV14 dc14 pm14 an14 cd14 ct14), sl14⟩)
    (c14 : PySem.W.codeIn K cd14 "handle_count" = true)
    (k14 : PySem.W.keepIn K (.ref f14) = true)
    (a15 : PySem.W.nsIn K mainGlobals "knots_of" = some (some (.ref f15)))
    (l15 : K.lookup f15 = some ⟨oc15, od15, .func (PySem.W.fnOf "knots_of" "knots_of" (defArgs s_knots_of) (defBody s_knots_of) (defScope s_knots_of) .none kV15 dc15 pm15 an15 cd15 ct15), sl15⟩)
    (c15 : PySem.W.codeIn K cd15 "knots_of" = true)
    (k15 : PySem.W.keepIn K (.ref f15) = true)
    (a16 : PySem.W.nsIn K mainGlobals "is_time" = some (some (.ref f16)))
    (l16 : K.lookup f16 = some ⟨oc16, od16, .func (PySem.W.fnOf "is_time" "is_time" (defArgs s_is_time) (defBody s_is_time) (defScope s_is_time) .none kV16 dc16 pm16 an16 cd16 ct16), sl16⟩)
    (c16 : PySem.W.codeIn K cd16 "is_time" = true)
    (k16 : PySem.W.keepIn K (.ref f16) = true)
    (a17 : PySem.W.nsIn K mainGlobals "time_within" = some (some (.ref f17)))
    (l17 : K.lookup f17 = some ⟨oc17, od17, .func (PySem.W.fnOf "time_within" "time_within" (defArgs s_time_within) (defBody s_time_within) (defScope s_time_within) .none kV17 dc17 pm17 an17 cd17 ct17), sl17⟩)
    (c17 : PySem.W.codeIn K cd17 "time_within" = true)
    (k17 : PySem.W.keepIn K (.ref f17) = true)
    (a18 : PySem.W.nsIn K mainGlobals "weights" = some (some (.ref f18)))
    (l18 : K.lookup f18 = some ⟨oc18, od18, .func (PySem.W.fnOf "weights" "weights" (defArgs s_weights) (defBody s_weights) (defScope s_weights) .none kV18 dc18 pm18 an18 cd18 ct18), sl18⟩)
    (c18 : PySem.W.codeIn K cd18 "weights" = true)
    (k18 : PySem.W.keepIn K (.ref f18) = true)
    (a19 : PySem.W.nsIn K mainGlobals "_knot_ahead" = some (some (.ref f19)))
    (l19 : K.lookup f19 = some ⟨oc19, od19, .func (PySem.W.fnOf "_knot_ahead" "_knot_ahead" (defArgs s_knot_ahead) (defBody s_knot_ahead) (defScope s_knot_ahead) .none kV19 dc19 pm19 an19 cd19 ct19), sl19⟩)
    (c19 : PySem.W.codeIn K cd19 "_knot_ahead" = true)
    (k19 : PySem.W.keepIn K (.ref f19) = true)
    (a20 : PySem.W.nsIn K mainGlobals "_weight" = some (some (.ref f20)))
    (l20 : K.lookup f20 = some ⟨oc20, od20, .func (PySem.W.fnOf "_weight" "_weight" (defArgs s_weight) (defBody s_weight) (defScope s_weight) .none kV20 dc20 pm20 an20 cd20 ct20), sl20⟩)
    (c20 : PySem.W.codeIn K cd20 "_weight" = true)
    (k20 : PySem.W.keepIn K (.ref f20) = true)
    (a21 : PySem.W.nsIn K mainGlobals "_share" = some (some (.ref f21)))
    (l21 : K.lookup f21 = some ⟨oc21, od21, .func (PySem.W.fnOf "_share" "_share" (defArgs s_share) (defBody s_share) (defScope s_share) .none kV21 dc21 pm21 an21 cd21 ct21), sl21⟩)
    (c21 : PySem.W.codeIn K cd21 "_share" = true)
    (k21 : PySem.W.keepIn K (.ref f21) = true)
    (a22 : PySem.W.nsIn K mainGlobals "_law_any" = some (some (.ref f22)))
    (l22 : K.lookup f22 = some ⟨oc22, od22, .func (PySem.W.fnOf "_law_any" "_law_any" (defArgs s_law_any) (defBody s_law_any) (defScope s_law_any) .none kV22 dc22 pm22 an22 cd22 ct22), sl22⟩)
    (c22 : PySem.W.codeIn K cd22 "_law_any" = true)
    (k22 : PySem.W.keepIn K (.ref f22) = true)
    (a23 : PySem.W.nsIn K mainGlobals "_law_deal" = some (some (.ref f23)))
    (l23 : K.lookup f23 = some ⟨oc23, od23, .func (PySem.W.fnOf "_law_deal" "_law_deal" (defArgs s_law_deal) (defBody s_law_deal) (defScope s_law_deal) .none kV23 dc23 pm23 an23 cd23 ct23), sl23⟩)
    (c23 : PySem.W.codeIn K cd23 "_law_deal" = true)
    (k23 : PySem.W.keepIn K (.ref f23) = true)
    (a24 : PySem.W.nsIn K mainGlobals "_law_draw" = some (some (.ref f24)))
    (l24 : K.lookup f24 = some ⟨oc24, od24, .func (PySem.W.fnOf "_law_draw" "_law_draw" (defArgs s_law_draw) (defBody s_law_draw) (defScope s_law_draw) .none kV24 dc24 pm24 an24 cd24 ct24), sl24⟩)
    (c24 : PySem.W.codeIn K cd24 "_law_draw" = true)
    (k24 : PySem.W.keepIn K (.ref f24) = true)
    (a25 : PySem.W.nsIn K mainGlobals "_law_pick" = some (some (.ref f25)))
    (l25 : K.lookup f25 = some ⟨oc25, od25, .func (PySem.W.fnOf "_law_pick" "_law_pick" (defArgs s_law_pick) (defBody s_law_pick) (defScope s_law_pick) .none kV25 dc25 pm25 an25 cd25 ct25), sl25⟩)
    (c25 : PySem.W.codeIn K cd25 "_law_pick" = true)
    (k25 : PySem.W.keepIn K (.ref f25) = true)
    (a26 : PySem.W.nsIn K mainGlobals "halfway" = some (some (.ref f26)))
    (l26 : K.lookup f26 = some ⟨oc26, od26, .func (PySem.W.fnOf "halfway" "halfway" (defArgs s_f_halfway) (defBody s_f_halfway) (defScope s_f_halfway) .none kV26 dc26 pm26 an26 cd26 ct26), sl26⟩)
    (c26 : PySem.W.codeIn K cd26 "halfway" = true)
    (k26 : PySem.W.keepIn K (.ref f26) = true)
    (a27 : PySem.W.nsIn K mainGlobals "sign_of" = some (some (.ref f27)))
    (l27 : K.lookup f27 = some ⟨oc27, od27, .func (PySem.W.fnOf "sign_of" "sign_of" (defArgs s_f_sign_of) (defBody s_f_sign_of) (defScope s_f_sign_of) .none kV27 dc27 pm27 an27 cd27 ct27), sl27⟩)
    (c27 : PySem.W.codeIn K cd27 "sign_of" = true)
    (k27 : PySem.W.keepIn K (.ref f27) = true)
    (a28 : PySem.W.nsIn K mainGlobals "value" = some (some (.ref f28)))
    (l28 : K.lookup f28 = some ⟨oc28, od28, .func (PySem.W.fnOf "value" "value" (defArgs s_f_value) (defBody s_f_value) (defScope s_f_value) .none kV28 dc28 pm28 an28 cd28 ct28), sl28⟩)
    (c28 : PySem.W.codeIn K cd28 "value" = true)
    (k28 : PySem.W.keepIn K (.ref f28) = true)
    (a29 : PySem.W.nsIn K mainGlobals "mixed" = some (some (.ref f29)))
    (l29 : K.lookup f29 = some ⟨oc29, od29, .func (PySem.W.fnOf "mixed" "mixed" (defArgs s_f_mixed) (defBody s_f_mixed) (defScope s_f_mixed) .none kV29 dc29 pm29 an29 cd29 ct29), sl29⟩)
    (c29 : PySem.W.codeIn K cd29 "mixed" = true)
    (k29 : PySem.W.keepIn K (.ref f29) = true)
    (a30 : PySem.W.nsIn K mainGlobals "polar_value" = some (some (.ref f30)))
    (l30 : K.lookup f30 = some ⟨oc30, od30, .func (PySem.W.fnOf "polar_value" "polar_value" (defArgs s_f_polar_value) (defBody s_f_polar_value) (defScope s_f_polar_value) .none kV30 dc30 pm30 an30 cd30 ct30), sl30⟩)
    (c30 : PySem.W.codeIn K cd30 "polar_value" = true)
    (k30 : PySem.W.keepIn K (.ref f30) = true)
    (a31 : PySem.W.nsIn K mainGlobals "_product_sums" = some (some (.ref f31)))
    (l31 : K.lookup f31 = some ⟨oc31, od31, .func (PySem.W.fnOf "_product_sums" "_product_sums" (defArgs s_f__product_sums) (defBody s_f__product_sums) (defScope s_f__product_sums) .none kV31 dc31 pm31 an31 cd31 ct31), sl31⟩)
    (c31 : PySem.W.codeIn K cd31 "_product_sums" = true)
    (k31 : PySem.W.keepIn K (.ref f31) = true)
    (a32 : PySem.W.nsIn K mainGlobals "rows_of" = some (some (.ref f32)))
    (l32 : K.lookup f32 = some ⟨oc32, od32, .func (PySem.W.fnOf "rows_of" "rows_of" (defArgs s_f_rows_of) (defBody s_f_rows_of) (defScope s_f_rows_of) .none kV32 dc32 pm32 an32 cd32 ct32), sl32⟩)
    (c32 : PySem.W.codeIn K cd32 "rows_of" = true)
    (k32 : PySem.W.keepIn K (.ref f32) = true)
    (a33 : PySem.W.nsIn K mainGlobals "_powers_behind" = some (some (.ref f33)))
    (l33 : K.lookup f33 = some ⟨oc33, od33, .func (PySem.W.fnOf "_powers_behind" "_powers_behind" (defArgs s_f__powers_behind) (defBody s_f__powers_behind) (defScope s_f__powers_behind) .none kV33 dc33 pm33 an33 cd33 ct33), sl33⟩)
    (c33 : PySem.W.codeIn K cd33 "_powers_behind" = true)
    (k33 : PySem.W.keepIn K (.ref f33) = true)
    (a34 : PySem.W.nsIn K mainGlobals "sign_there" = some (some (.ref f34)))
    (l34 : K.lookup f34 = some ⟨oc34, od34, .func (PySem.W.fnOf "sign_there" "sign_there" (defArgs s_f_sign_there) (defBody s_f_sign_there) (defScope s_f_sign_there) .none kV34 dc34 pm34 an34 cd34 ct34), sl34⟩)
    (c34 : PySem.W.codeIn K cd34 "sign_there" = true)
    (k34 : PySem.W.keepIn K (.ref f34) = true)
    (a35 : PySem.W.nsIn K mainGlobals "drawn_handles" = some (some (.ref f35)))
    (l35 : K.lookup f35 = some ⟨oc35, od35, .func (PySem.W.fnOf "drawn_handles" "drawn_handles" (defArgs s_f_drawn_handles) (defBody s_f_drawn_handles) (defScope s_f_drawn_handles) .none kV35 dc35 pm35 an35 cd35 ct35), sl35⟩)
    (c35 : PySem.W.codeIn K cd35 "drawn_handles" = true)
    (k35 : PySem.W.keepIn K (.ref f35) = true)
    (a36 : PySem.W.nsIn K mainGlobals "whole_powers" = some (some (.ref f36)))
    (l36 : K.lookup f36 = some ⟨oc36, od36, .func (PySem.W.fnOf "whole_powers" "whole_powers" (defArgs s_f_whole_powers) (defBody s_f_whole_powers) (defScope s_f_whole_powers) .none kV36 dc36 pm36 an36 cd36 ct36), sl36⟩)
    (c36 : PySem.W.codeIn K cd36 "whole_powers" = true)
    (k36 : PySem.W.keepIn K (.ref f36) = true)
    (a37 : PySem.W.nsIn K mainGlobals "_plain" = some (some (.ref f37)))
    (l37 : K.lookup f37 = some ⟨oc37, od37, .func (PySem.W.fnOf "_plain" "_plain" (defArgs s_f__plain) (defBody s_f__plain) (defScope s_f__plain) .none kV37 dc37 pm37 an37 cd37 ct37), sl37⟩)
    (c37 : PySem.W.codeIn K cd37 "_plain" = true)
    (k37 : PySem.W.keepIn K (.ref f37) = true)
    (a38 : PySem.W.nsIn K mainGlobals "chain_of" = some (some (.ref f38)))
    (l38 : K.lookup f38 = some ⟨oc38, od38, .func (PySem.W.fnOf "chain_of" "chain_of" (defArgs s_f_chain_of) (defBody s_f_chain_of) (defScope s_f_chain_of) .none kV38 dc38 pm38 an38 cd38 ct38), sl38⟩)
    (c38 : PySem.W.codeIn K cd38 "chain_of" = true)
    (k38 : PySem.W.keepIn K (.ref f38) = true)
    (a39 : PySem.W.nsIn K mainGlobals "_turned_remainder" = some (some (.ref f39)))
    (l39 : K.lookup f39 = some ⟨oc39, od39, .func (PySem.W.fnOf "_turned_remainder" "_turned_remainder" (defArgs s_f__turned_remainder) (defBody s_f__turned_remainder) (defScope s_f__turned_remainder) .none kV39 dc39 pm39 an39 cd39 ct39), sl39⟩)
    (c39 : PySem.W.codeIn K cd39 "_turned_remainder" = true)
    (k39 : PySem.W.keepIn K (.ref f39) = true)
    (a40 : PySem.W.nsIn K mainGlobals "_quotient" = some (some (.ref f40)))
    (l40 : K.lookup f40 = some ⟨oc40, od40, .func (PySem.W.fnOf "_quotient" "_quotient" (defArgs s_f__quotient) (defBody s_f__quotient) (defScope s_f__quotient) .none kV40 dc40 pm40 an40 cd40 ct40), sl40⟩)
    (c40 : PySem.W.codeIn K cd40 "_quotient" = true)
    (k40 : PySem.W.keepIn K (.ref f40) = true)
    (a41 : PySem.W.nsIn K mainGlobals "_without_top" = some (some (.ref f41)))
    (l41 : K.lookup f41 = some ⟨oc41, od41, .func (PySem.W.fnOf "_without_top" "_without_top" (defArgs s_f__without_top) (defBody s_f__without_top) (defScope s_f__without_top) .none kV41 dc41 pm41 an41 cd41 ct41), sl41⟩)
    (c41 : PySem.W.codeIn K cd41 "_without_top" = true)
    (k41 : PySem.W.keepIn K (.ref f41) = true)
    (a42 : PySem.W.nsIn K mainGlobals "_value_at" = some (some (.ref f42)))
    (l42 : K.lookup f42 = some ⟨oc42, od42, .func (PySem.W.fnOf "_value_at" "_value_at" (defArgs s_f__value_at) (defBody s_f__value_at) (defScope s_f__value_at) .none kV42 dc42 pm42 an42 cd42 ct42), sl42⟩)
    (c42 : PySem.W.codeIn K cd42 "_value_at" = true)
    (k42 : PySem.W.keepIn K (.ref f42) = true)
    (a43 : PySem.W.nsIn K mainGlobals "sign_at" = some (some (.ref f43)))
    (l43 : K.lookup f43 = some ⟨oc43, od43, .func (PySem.W.fnOf "sign_at" "sign_at" (defArgs s_f_sign_at) (defBody s_f_sign_at) (defScope s_f_sign_at) .none kV43 dc43 pm43 an43 cd43 ct43), sl43⟩)
    (c43 : PySem.W.codeIn K cd43 "sign_at" = true)
    (k43 : PySem.W.keepIn K (.ref f43) = true)
    (a44 : PySem.W.nsIn K mainGlobals "_changes" = some (some (.ref f44)))
    (l44 : K.lookup f44 = some ⟨oc44, od44, .func (PySem.W.fnOf "_changes" "_changes" (defArgs s_f__changes) (defBody s_f__changes) (defScope s_f__changes) .none kV44 dc44 pm44 an44 cd44 ct44), sl44⟩)
    (c44 : PySem.W.codeIn K cd44 "_changes" = true)
    (k44 : PySem.W.keepIn K (.ref f44) = true)
    (a45 : PySem.W.nsIn K mainGlobals "_roots_between" = some (some (.ref f45)))
    (l45 : K.lookup f45 = some ⟨oc45, od45, .func (PySem.W.fnOf "_roots_between" "_roots_between" (defArgs s_f__roots_between) (defBody s_f__roots_between) (defScope s_f__roots_between) .none kV45 dc45 pm45 an45 cd45 ct45), sl45⟩)
    (c45 : PySem.W.codeIn K cd45 "_roots_between" = true)
    (k45 : PySem.W.keepIn K (.ref f45) = true)
    (a46 : PySem.W.nsIn K mainGlobals "root_ranges" = some (some (.ref f46)))
    (l46 : K.lookup f46 = some ⟨oc46, od46, .func (PySem.W.fnOf "root_ranges" "root_ranges" (defArgs s_f_root_ranges) (defBody s_f_root_ranges) (defScope s_f_root_ranges) .none kV46 dc46 pm46 an46 cd46 ct46), sl46⟩)
    (c46 : PySem.W.codeIn K cd46 "root_ranges" = true)
    (k46 : PySem.W.keepIn K (.ref f46) = true)
    (a47 : PySem.W.nsIn K mainGlobals "_has_root_end" = some (some (.ref f47)))
    (l47 : K.lookup f47 = some ⟨oc47, od47, .func (PySem.W.fnOf "_has_root_end" "_has_root_end" (defArgs s_f__has_root_end) (defBody s_f__has_root_end) (defScope s_f__has_root_end) .none kV47 dc47 pm47 an47 cd47 ct47), sl47⟩)
    (c47 : PySem.W.codeIn K cd47 "_has_root_end" = true)
    (k47 : PySem.W.keepIn K (.ref f47) = true)
    (a48 : PySem.W.nsIn K mainGlobals "handles_between" = some (some (.ref f48)))
    (l48 : K.lookup f48 = some ⟨oc48, od48, .func (PySem.W.fnOf "handles_between" "handles_between" (defArgs s_f_handles_between) (defBody s_f_handles_between) (defScope s_f_handles_between) .none kV48 dc48 pm48 an48 cd48 ct48), sl48⟩)
    (c48 : PySem.W.codeIn K cd48 "handles_between" = true)
    (k48 : PySem.W.keepIn K (.ref f48) = true)
    (a49 : PySem.W.nsIn K mainGlobals "_rows_between" = some (some (.ref f49)))
    (l49 : K.lookup f49 = some ⟨oc49, od49, .func (PySem.W.fnOf "_rows_between" "_rows_between" (defArgs s_f__rows_between) (defBody s_f__rows_between) (defScope s_f__rows_between) .none kV49 dc49 pm49 an49 cd49 ct49), sl49⟩)
    (c49 : PySem.W.codeIn K cd49 "_rows_between" = true)
    (k49 : PySem.W.keepIn K (.ref f49) = true)
    (a50 : PySem.W.nsIn K mainGlobals "sign_changes" = some (some (.ref f50)))
    (l50 : K.lookup f50 = some ⟨oc50, od50, .func (PySem.W.fnOf "sign_changes" "sign_changes" (defArgs s_f_sign_changes) (defBody s_f_sign_changes) (defScope s_f_sign_changes) .none kV50 dc50 pm50 an50 cd50 ct50), sl50⟩)
    (c50 : PySem.W.codeIn K cd50 "sign_changes" = true)
    (k50 : PySem.W.keepIn K (.ref f50) = true)
    (a51 : PySem.W.nsIn K mainGlobals "found_places" = some (some (.ref f51)))
    (l51 : K.lookup f51 = some ⟨oc51, od51, .func (PySem.W.fnOf "found_places" "found_places" (defArgs s_f_found_places) (defBody s_f_found_places) (defScope s_f_found_places) .none kV51 dc51 pm51 an51 cd51 ct51), sl51⟩)
    (c51 : PySem.W.codeIn K cd51 "found_places" = true)
    (k51 : PySem.W.keepIn K (.ref f51) = true)
    (a52 : PySem.W.nsIn K mainGlobals "_inner_places" = some (some (.ref f52)))
    (l52 : K.lookup f52 = some ⟨oc52, od52, .func (PySem.W.fnOf "_inner_places" "_inner_places" (defArgs s_f__inner_places) (defBody s_f__inner_places) (defScope s_f__inner_places) .none kV52 dc52 pm52 an52 cd52 ct52), sl52⟩)
    (c52 : PySem.W.codeIn K cd52 "_inner_places" = true)
    (k52 : PySem.W.keepIn K (.ref f52) = true)
    (a53 : PySem.W.nsIn K mainGlobals "places_hold" = some (some (.ref f53)))
    (l53 : K.lookup f53 = some ⟨oc53, od53, .func (PySem.W.fnOf "places_hold" "places_hold" (defArgs s_f_places_hold) (defBody s_f_places_hold) (defScope s_f_places_hold) .none kV53 dc53 pm53 an53 cd53 ct53), sl53⟩)
    (c53 : PySem.W.codeIn K cd53 "places_hold" = true)
    (k53 : PySem.W.keepIn K (.ref f53) = true)
    (a54 : PySem.W.nsIn K mainGlobals "_is_told" = some (some (.ref f54)))
    (l54 : K.lookup f54 = some ⟨oc54, od54, .func (PySem.W.fnOf "_is_told" "_is_told" (defArgs s_f__is_told) (defBody s_f__is_told) (defScope s_f__is_told) .none kV54 dc54 pm54 an54 cd54 ct54), sl54⟩)
    (c54 : PySem.W.codeIn K cd54 "_is_told" = true)
    (k54 : PySem.W.keepIn K (.ref f54) = true)
    (a55 : PySem.W.nsIn K mainGlobals "_ends_ahead" = some (some (.ref f55)))
    (l55 : K.lookup f55 = some ⟨oc55, od55, .func (PySem.W.fnOf "_ends_ahead" "_ends_ahead" (defArgs s_f__ends_ahead) (defBody s_f__ends_ahead) (defScope s_f__ends_ahead) .none kV55 dc55 pm55 an55 cd55 ct55), sl55⟩)
    (c55 : PySem.W.codeIn K cd55 "_ends_ahead" = true)
    (k55 : PySem.W.keepIn K (.ref f55) = true)
    (a56 : PySem.W.nsIn K mainGlobals "_begins_behind" = some (some (.ref f56)))
    (l56 : K.lookup f56 = some ⟨oc56, od56, .func (PySem.W.fnOf "_begins_behind" "_begins_behind" (defArgs s_f__begins_behind) (defBody s_f__begins_behind) (defScope s_f__begins_behind) .none kV56 dc56 pm56 an56 cd56 ct56), sl56⟩)
    (c56 : PySem.W.codeIn K cd56 "_begins_behind" = true)
    (k56 : PySem.W.keepIn K (.ref f56) = true)
    (a57 : PySem.W.nsIn K mainGlobals "cover_holds" = some (some (.ref f57)))
    (l57 : K.lookup f57 = some ⟨oc57, od57, .func (PySem.W.fnOf "cover_holds" "cover_holds" (defArgs s_f_cover_holds) (defBody s_f_cover_holds) (defScope s_f_cover_holds) .none kV57 dc57 pm57 an57 cd57 ct57), sl57⟩)
    (c57 : PySem.W.codeIn K cd57 "cover_holds" = true)
    (k57 : PySem.W.keepIn K (.ref f57) = true)
    (a58 : PySem.W.nsIn K mainGlobals "count_holds" = some (some (.ref f58)))
    (l58 : K.lookup f58 = some ⟨oc58, od58, .func (PySem.W.fnOf "count_holds" "count_holds" (defArgs s_f_count_holds) (defBody s_f_count_holds) (defScope s_f_count_holds) .none kV58 dc58 pm58 an58 cd58 ct58), sl58⟩)
    (c58 : PySem.W.codeIn K cd58 "count_holds" = true)
    (k58 : PySem.W.keepIn K (.ref f58) = true)
    (a59 : PySem.W.nsIn K mainGlobals "_are_cuts" = some (some (.ref f59)))
    (l59 : K.lookup f59 = some ⟨oc59, od59, .func (PySem.W.fnOf "_are_cuts" "_are_cuts" (defArgs s_f__are_cuts) (defBody s_f__are_cuts) (defScope s_f__are_cuts) .none kV59 dc59 pm59 an59 cd59 ct59), sl59⟩)
    (c59 : PySem.W.codeIn K cd59 "_are_cuts" = true)
    (k59 : PySem.W.keepIn K (.ref f59) = true)
    (a60 : PySem.W.nsIn K mainGlobals "_cut_handles" = some (some (.ref f60)))
    (l60 : K.lookup f60 = some ⟨oc60, od60, .func (PySem.W.fnOf "_cut_handles" "_cut_handles" (defArgs s_f__cut_handles) (defBody s_f__cut_handles) (defScope s_f__cut_handles) .none kV60 dc60 pm60 an60 cd60 ct60), sl60⟩)
    (c60 : PySem.W.codeIn K cd60 "_cut_handles" = true)
    (k60 : PySem.W.keepIn K (.ref f60) = true)
    (a61 : PySem.W.nsIn K mainGlobals "_law_odd_right" = some (some (.ref f61)))
    (l61 : K.lookup f61 = some ⟨oc61, od61, .func (PySem.W.fnOf "_law_odd_right" "_law_odd_right" (defArgs s_f__law_odd_right) (defBody s_f__law_odd_right) (defScope s_f__law_odd_right) .none kV61 dc61 pm61 an61 cd61 ct61), sl61⟩)
    (c61 : PySem.W.codeIn K cd61 "_law_odd_right" = true)
    (k61 : PySem.W.keepIn K (.ref f61) = true)
    (a62 : PySem.W.nsIn K mainGlobals "law" = some (some (.ref f62)))
    (l62 : K.lookup f62 = some ⟨oc62, od62, .func (PySem.W.fnOf "law" "law" (defArgs s_f_law) (defBody s_f_law) (defScope s_f_law) .none kV62 dc62 pm62 an62 cd62 ct62), sl62⟩)
    (c62 : PySem.W.codeIn K cd62 "law" = true)
    (k62 : PySem.W.keepIn K (.ref f62) = true)
    (a63 : PySem.W.findIn K (.ref C) "__init__" = some (some (.ref f63)))
    (i63 : PySem.W.isFn K (.ref f63) = true)
    (l63 : K.lookup f63 = some ⟨oc63, od63, .func (PySem.W.fnOf "__init__" "Bend.__init__" (defArgs s_binit) (defBody s_binit) (defScope s_binit) .none kV63 dc63 pm63 an63 cd63 ct63), sl63⟩)
    (c63 : PySem.W.codeIn K cd63 "Bend.__init__" = true)
    (k63 : PySem.W.keepIn K (.ref f63) = true)
    (pg : PySem.W.plainGet K C Str.empty = true)
    (hd : PySem.W.hasDictIn K C = true)
    (po : PySem.W.plainOver K C = true)
    (sa : PySem.W.findIn K (.ref C) "__setattr__" = some (some (.builtin "object.__setattr__")))
    (mk : PySem.W.makesIn K C = true)
    (kc : PySem.W.keepIn K (.ref C) = true)
    (ndegree : PySem.W.findIn K (.ref C) "degree" = some none)
    (nmarks : PySem.W.findIn K (.ref C) "marks" = some none)
    (nhandles : PySem.W.findIn K (.ref C) "handles" = some none)
    (aZERO : PySem.W.nsIn K mainGlobals "ZERO" = some (some (.ref zz)))
    (lZERO : K.lookup zz = some ⟨.type "tuple", dzz, .seq (Array.mk [.int 0 szz, .int 1 tzz]) mzz, ezz⟩)
    (aONE : PySem.W.nsIn K mainGlobals "ONE" = some (some (.ref zo)))
    (lONE : K.lookup zo = some ⟨.type "tuple", dzo, .seq (Array.mk [.int 1 szo, .int 1 tzo]) mzo, ezo⟩)
    (b_isinstance : PySem.W.nsIn K mainGlobals "isinstance" = some none)
    (b_len : PySem.W.nsIn K mainGlobals "len" = some none)
    (b_int : PySem.W.nsIn K mainGlobals "int" = some none)
    (b_bool : PySem.W.nsIn K mainGlobals "bool" = some none)
    (b_tuple : PySem.W.nsIn K mainGlobals "tuple" = some none)
    (b_list : PySem.W.nsIn K mainGlobals "list" = some none)
    (b_str : PySem.W.nsIn K mainGlobals "str" = some none)
    (b_all : PySem.W.nsIn K mainGlobals "all" = some none)
    (b_any : PySem.W.nsIn K mainGlobals "any" = some none)
    (b_abs : PySem.W.nsIn K mainGlobals "abs" = some none)
    (b_range : PySem.W.nsIn K mainGlobals "range" = some none)
    (b_zip : PySem.W.nsIn K mainGlobals "zip" = some none)
    (b_enumerate : PySem.W.nsIn K mainGlobals "enumerate" = some none)
    (b_min : PySem.W.nsIn K mainGlobals "min" = some none)
    (b_max : PySem.W.nsIn K mainGlobals "max" = some none)
    (oha : PySem.W.findIn K (.ref C) "__class__" = some (some (.builtin "object.__class__")))
    (ohn : PySem.W.specialIn K (.builtin "object.__class__") "__get__" = some (some (.builtin "getset_descriptor.__get__")))
    (oht : PySem.W.takesIn K (.builtin "object.__class__") = some true)
    (ohm : PySem.W.mroIn K C (.type "object") = some true)
    (okt : PySem.W.mroIn K C (.type "tuple") = some false)
    (b_gcd : PySem.W.nsIn K mainGlobals "gcd" = some (some (.builtin "math.gcd")))
    (b_comb : PySem.W.nsIn K mainGlobals "comb" = some (some (.builtin "math.comb")))
    (b_lcm : PySem.W.nsIn K mainGlobals "lcm" = some (some (.builtin "math.lcm"))) :
    ∃ fd : FuncData, (∀ (s : Shared) (v : Value), BindsTo s fd ⟨[v], []⟩ [("_law_script", v)]) ∧ ∀ base : Heap, K.In base → base.Ns mainGlobals mg → FnOk l.prog w K mg base CX0 (14 + 3 * deep + 1) fa fd ["_law_script"] (spOf K C_lawE) := by
  have e := hfa.symm.trans (PySem.W.mg_of X G a62)
  cases e
  have Z : Blt mg := ⟨PySem.W.mg_none_of X G b_isinstance, PySem.W.mg_none_of X G b_len, PySem.W.mg_none_of X G b_int, PySem.W.mg_none_of X G b_bool, PySem.W.mg_none_of X G b_tuple, PySem.W.mg_none_of X G b_list, PySem.W.mg_none_of X G b_str, PySem.W.mg_none_of X G b_all, PySem.W.mg_none_of X G b_any, PySem.W.mg_none_of X G b_abs, PySem.W.mg_none_of X G b_range, PySem.W.mg_none_of X G b_zip, PySem.W.mg_of X G b_gcd⟩
  have Bf : BendF K C := ⟨⟨pg, hd, po, sa⟩, ndegree, nmarks, nhandles⟩
  have Zz : KPair K mg "ZERO" Q0 := kpair_of0 X G aZERO lZERO
  have Zo : KPair K mg "ONE" Q1 := kpair_of0 X G aONE lONE
  have F0 := fun_mk (st := s_is_whole) l0 c0 k0
  have h0 := F0.binds (ps := ["thing"]) fun _ _ _ _ _ _ us hl => match us, hl with | [_], _ => rfl
  have g0 := PySem.W.mg_of X G a0
  have F1 := fun_mk (st := s_is_sequence) l1 c1 k1
  have h1 := F1.binds (ps := ["thing"]) fun _ _ _ _ _ _ us hl => match us, hl with | [_], _ => rfl
  have g1 := PySem.W.mg_of X G a1
  have F2 := fun_mk (st := s_is_value) l2 c2 k2
  have h2 := F2.binds (ps := ["thing"]) fun _ _ _ _ _ _ us hl => match us, hl with | [_], _ => rfl
  have g2 := PySem.W.mg_of X G a2
  have F3 := fun_mk (st := s_are_values) l3 c3 k3
  have h3 := F3.binds (ps := ["thing"]) fun _ _ _ _ _ _ us hl => match us, hl with | [_], _ => rfl
  have g3 := PySem.W.mg_of X G a3
  have F4 := fun_mk (st := s_pair) l4 c4 k4
  have h4 := F4.binds (ps := ["worth"]) fun _ _ _ _ _ _ us hl => match us, hl with | [_], _ => rfl
  have g4 := PySem.W.mg_of X G a4
  have F5 := fun_mk (st := s_pairs) l5 c5 k5
  have h5 := F5.binds (ps := ["worths"]) fun _ _ _ _ _ _ us hl => match us, hl with | [_], _ => rfl
  have g5 := PySem.W.mg_of X G a5
  have F6 := fun_mk (st := s_ratio) l6 c6 k6
  have h6 := F6.binds (ps := ["p", "q"]) fun _ _ _ _ _ _ us hl => match us, hl with | [_, _], _ => rfl
  have g6 := PySem.W.mg_of X G a6
  have F7 := fun_mk (st := s_added) l7 c7 k7
  have h7 := F7.binds (ps := ["a", "b"]) fun _ _ _ _ _ _ us hl => match us, hl with | [_, _], _ => rfl
  have g7 := PySem.W.mg_of X G a7
  have F8 := fun_mk (st := s_taken) l8 c8 k8
  have h8 := F8.binds (ps := ["a", "b"]) fun _ _ _ _ _ _ us hl => match us, hl with | [_, _], _ => rfl
  have g8 := PySem.W.mg_of X G a8
  have F9 := fun_mk (st := s_multiplied) l9 c9 k9
  have h9 := F9.binds (ps := ["a", "b"]) fun _ _ _ _ _ _ us hl => match us, hl with | [_, _], _ => rfl
  have g9 := PySem.W.mg_of X G a9
  have F10 := fun_mk (st := s_divided) l10 c10 k10
  have h10 := F10.binds (ps := ["a", "b"]) fun _ _ _ _ _ _ us hl => match us, hl with | [_, _], _ => rfl
  have g10 := PySem.W.mg_of X G a10
  have F11 := fun_mk (st := s_total) l11 c11 k11
  have h11 := F11.binds (ps := ["worths"]) fun _ _ _ _ _ _ us hl => match us, hl with | [_], _ => rfl
  have g11 := PySem.W.mg_of X G a11
  have F12 := fun_mk (st := s_is_less) l12 c12 k12
  have h12 := F12.binds (ps := ["a", "b"]) fun _ _ _ _ _ _ us hl => match us, hl with | [_, _], _ => rfl
  have g12 := PySem.W.mg_of X G a12
  have F13 := fun_mk (st := s_are_marks) l13 c13 k13
  have h13 := F13.binds (ps := ["degree", "marks"]) fun _ _ _ _ _ _ us hl => match us, hl with | [_, _], _ => rfl
  have g13 := PySem.W.mg_of X G a13
  have F14 := fun_mk (st := s_handle_count) l14 c14 k14
  have h14 := F14.binds (ps := ["degree", "marks"]) fun _ _ _ _ _ _ us hl => match us, hl with | [_, _], _ => rfl
  have g14 := PySem.W.mg_of X G a14
  have F15 := fun_mk (st := s_knots_of) l15 c15 k15
  have h15 := F15.binds (ps := ["degree", "marks"]) fun _ _ _ _ _ _ us hl => match us, hl with | [_, _], _ => rfl
  have g15 := PySem.W.mg_of X G a15
  have F16 := fun_mk (st := s_is_time) l16 c16 k16
  have h16 := F16.binds (ps := ["marks", "thing"]) fun _ _ _ _ _ _ us hl => match us, hl with | [_, _], _ => rfl
  have g16 := PySem.W.mg_of X G a16
  have F17 := fun_mk (st := s_time_within) l17 c17 k17
  have h17 := F17.binds (ps := ["marks", "time"]) fun _ _ _ _ _ _ us hl => match us, hl with | [_, _], _ => rfl
  have g17 := PySem.W.mg_of X G a17
  have F18 := fun_mk (st := s_weights) l18 c18 k18
  have h18 := F18.binds (ps := ["degree", "marks", "time"]) fun _ _ _ _ _ _ us hl => match us, hl with | [_, _, _], _ => rfl
  have g18 := PySem.W.mg_of X G a18
  have F19 := fun_mk (st := s_knot_ahead) l19 c19 k19
  have h19 := F19.binds (ps := ["degree", "knots", "when"]) fun _ _ _ _ _ _ us hl => match us, hl with | [_, _, _], _ => rfl
  have g19 := PySem.W.mg_of X G a19
  have F20 := fun_mk (st := s_weight) l20 c20 k20
  have h20 := F20.binds (ps := ["row", "knots", "i", "size", "when"]) fun _ _ _ _ _ _ us hl => match us, hl with | [_, _, _, _, _], _ => rfl
  have g20 := PySem.W.mg_of X G a20
  have F21 := fun_mk (st := s_share) l21 c21 k21
  have h21 := F21.binds (ps := ["weight", "above", "below"]) fun _ _ _ _ _ _ us hl => match us, hl with | [_, _, _], _ => rfl
  have g21 := PySem.W.mg_of X G a21
  have F22 := fun_mk (st := s_law_any) l22 c22 k22
  have h22 := F22.binds (ps := ["_law_deal_here", "_law_deep", "_law_made"]) fun _ _ _ _ _ _ us hl => match us, hl with | [_, _, _], _ => rfl
  have g22 := PySem.W.mg_of X G a22
  have F23 := fun_mk (st := s_law_deal) l23 c23 k23
  have h23 := F23.binds (ps := ["_law_script", "_law_base"]) fun _ _ _ _ _ _ us hl => match us, hl with | [_, _], _ => rfl
  have g23 := PySem.W.mg_of X G a23
  have F24 := fun_mk (st := s_law_draw) l24 c24 k24
  have h24 := F24.binds (ps := ["_law_deal_here", "_law_bound"]) fun _ _ _ _ _ _ us hl => match us, hl with | [_, _], _ => rfl
  have g24 := PySem.W.mg_of X G a24
  have F25 := fun_mk (st := s_law_pick) l25 c25 k25
  have h25 := F25.binds (ps := ["_law_deal_here", "_law_some"]) fun _ _ _ _ _ _ us hl => match us, hl with | [_, _], _ => rfl
  have g25 := PySem.W.mg_of X G a25
  have F26 := fun_mk (st := s_f_halfway) l26 c26 k26
  have h26 := F26.binds (ps := ["a", "b"]) fun _ _ _ _ _ _ us hl => match us, hl with | [_, _], _ => rfl
  have g26 := PySem.W.mg_of X G a26
  have F27 := fun_mk (st := s_f_sign_of) l27 c27 k27
  have h27 := F27.binds (ps := ["n"]) fun _ _ _ _ _ _ us hl => match us, hl with | [_], _ => rfl
  have g27 := PySem.W.mg_of X G a27
  have F28 := fun_mk (st := s_f_value) l28 c28 k28
  have h28 := F28.binds (ps := ["bend", "time"]) fun _ _ _ _ _ _ us hl => match us, hl with | [_, _], _ => rfl
  have g28 := PySem.W.mg_of X G a28
  have F29 := fun_mk (st := s_f_mixed) l29 c29 k29
  have h29 := F29.binds (ps := ["early", "late", "low", "high"]) fun _ _ _ _ _ _ us hl => match us, hl with | [_, _, _, _], _ => rfl
  have g29 := PySem.W.mg_of X G a29
  have F30 := fun_mk (st := s_f_polar_value) l30 c30 k30
  have h30 := F30.binds (ps := ["powers", "times"]) fun _ _ _ _ _ _ us hl => match us, hl with | [_, _], _ => rfl
  have g30 := PySem.W.mg_of X G a30
  have F31 := fun_mk (st := s_f__product_sums) l31 c31 k31
  have h31 := F31.binds (ps := ["times"]) fun _ _ _ _ _ _ us hl => match us, hl with | [_], _ => rfl
  have g31 := PySem.W.mg_of X G a31
  have F32 := fun_mk (st := s_f_rows_of) l32 c32 k32
  have h32 := F32.binds (ps := ["bend"]) fun _ _ _ _ _ _ us hl => match us, hl with | [_], _ => rfl
  have g32 := PySem.W.mg_of X G a32
  have F33 := fun_mk (st := s_f__powers_behind) l33 c33 k33
  have h33 := F33.binds (ps := ["bend", "knots", "at"]) fun _ _ _ _ _ _ us hl => match us, hl with | [_, _, _], _ => rfl
  have g33 := PySem.W.mg_of X G a33
  have F34 := fun_mk (st := s_f_sign_there) l34 c34 k34
  have h34 := F34.binds (ps := ["bend", "when"]) fun _ _ _ _ _ _ us hl => match us, hl with | [_, _], _ => rfl
  have g34 := PySem.W.mg_of X G a34
  have F35 := fun_mk (st := s_f_drawn_handles) l35 c35 k35
  have h35 := F35.binds (ps := ["degree", "marks", "rows"]) fun _ _ _ _ _ _ us hl => match us, hl with | [_, _, _], _ => rfl
  have g35 := PySem.W.mg_of X G a35
  have F36 := fun_mk (st := s_f_whole_powers) l36 c36 k36
  have h36 := F36.binds (ps := ["powers"]) fun _ _ _ _ _ _ us hl => match us, hl with | [_], _ => rfl
  have g36 := PySem.W.mg_of X G a36
  have F37 := fun_mk (st := s_f__plain) l37 c37 k37
  have h37 := F37.binds (ps := ["whole"]) fun _ _ _ _ _ _ us hl => match us, hl with | [_], _ => rfl
  have g37 := PySem.W.mg_of X G a37
  have F38 := fun_mk (st := s_f_chain_of) l38 c38 k38
  have h38 := F38.binds (ps := ["powers"]) fun _ _ _ _ _ _ us hl => match us, hl with | [_], _ => rfl
  have g38 := PySem.W.mg_of X G a38
  have F39 := fun_mk (st := s_f__turned_remainder) l39 c39 k39
  have h39 := F39.binds (ps := ["one", "other"]) fun _ _ _ _ _ _ us hl => match us, hl with | [_, _], _ => rfl
  have g39 := PySem.W.mg_of X G a39
  have F40 := fun_mk (st := s_f__quotient) l40 c40 k40
  have h40 := F40.binds (ps := ["one", "other"]) fun _ _ _ _ _ _ us hl => match us, hl with | [_, _], _ => rfl
  have g40 := PySem.W.mg_of X G a40
  have F41 := fun_mk (st := s_f__without_top) l41 c41 k41
  have h41 := F41.binds (ps := ["rest", "other", "scale", "many"]) fun _ _ _ _ _ _ us hl => match us, hl with | [_, _, _, _], _ => rfl
  have g41 := PySem.W.mg_of X G a41
  have F42 := fun_mk (st := s_f__value_at) l42 c42 k42
  have h42 := F42.binds (ps := ["whole", "when"]) fun _ _ _ _ _ _ us hl => match us, hl with | [_, _], _ => rfl
  have g42 := PySem.W.mg_of X G a42
  have F43 := fun_mk (st := s_f_sign_at) l43 c43 k43
  have h43 := F43.binds (ps := ["whole", "when"]) fun _ _ _ _ _ _ us hl => match us, hl with | [_, _], _ => rfl
  have g43 := PySem.W.mg_of X G a43
  have F44 := fun_mk (st := s_f__changes) l44 c44 k44
  have h44 := F44.binds (ps := ["chain", "when"]) fun _ _ _ _ _ _ us hl => match us, hl with | [_, _], _ => rfl
  have g44 := PySem.W.mg_of X G a44
  have F45 := fun_mk (st := s_f__roots_between) l45 c45 k45
  have h45 := F45.binds (ps := ["chain", "low", "high"]) fun _ _ _ _ _ _ us hl => match us, hl with | [_, _, _], _ => rfl
  have g45 := PySem.W.mg_of X G a45
  have F46 := fun_mk (st := s_f_root_ranges) l46 c46 k46
  have h46 := F46.binds (ps := ["chain", "low", "high"]) fun _ _ _ _ _ _ us hl => match us, hl with | [_, _, _], _ => rfl
  have g46 := PySem.W.mg_of X G a46
  have F47 := fun_mk (st := s_f__has_root_end) l47 c47 k47
  have h47 := F47.binds (ps := ["chain", "low", "high"]) fun _ _ _ _ _ _ us hl => match us, hl with | [_, _, _], _ => rfl
  have g47 := PySem.W.mg_of X G a47
  have F48 := fun_mk (st := s_f_handles_between) l48 c48 k48
  have h48 := F48.binds (ps := ["bend", "rows", "low", "high"]) fun _ _ _ _ _ _ us hl => match us, hl with | [_, _, _, _], _ => rfl
  have g48 := PySem.W.mg_of X G a48
  have F49 := fun_mk (st := s_f__rows_between) l49 c49 k49
  have h49 := F49.binds (ps := ["rows", "low", "high"]) fun _ _ _ _ _ _ us hl => match us, hl with | [_, _, _], _ => rfl
  have g49 := PySem.W.mg_of X G a49
  have F50 := fun_mk (st := s_f_sign_changes) l50 c50 k50
  have h50 := F50.binds (ps := ["handles"]) fun _ _ _ _ _ _ us hl => match us, hl with | [_], _ => rfl
  have g50 := PySem.W.mg_of X G a50
  have F51 := fun_mk (st := s_f_found_places) l51 c51 k51
  have h51 := F51.binds (ps := ["bend"]) fun _ _ _ _ _ _ us hl => match us, hl with | [_], _ => rfl
  have g51 := PySem.W.mg_of X G a51
  have F52 := fun_mk (st := s_f__inner_places) l52 c52 k52
  have h52 := F52.binds (ps := ["start", "end", "powers"]) fun _ _ _ _ _ _ us hl => match us, hl with | [_, _, _], _ => rfl
  have g52 := PySem.W.mg_of X G a52
  have F53 := fun_mk (st := s_f_places_hold) l53 c53 k53
  have h53 := F53.binds (ps := ["bend", "value"]) fun _ _ _ _ _ _ us hl => match us, hl with | [_, _], _ => rfl
  have g53 := PySem.W.mg_of X G a53
  have F54 := fun_mk (st := s_f__is_told) l54 c54 k54
  have h54 := F54.binds (ps := ["bend", "found", "at", "thing"]) fun _ _ _ _ _ _ us hl => match us, hl with | [_, _, _, _], _ => rfl
  have g54 := PySem.W.mg_of X G a54
  have F55 := fun_mk (st := s_f__ends_ahead) l55 c55 k55
  have h55 := F55.binds (ps := ["place", "when"]) fun _ _ _ _ _ _ us hl => match us, hl with | [_, _], _ => rfl
  have g55 := PySem.W.mg_of X G a55
  have F56 := fun_mk (st := s_f__begins_behind) l56 c56 k56
  have h56 := F56.binds (ps := ["place", "when"]) fun _ _ _ _ _ _ us hl => match us, hl with | [_, _], _ => rfl
  have g56 := PySem.W.mg_of X G a56
  have F57 := fun_mk (st := s_f_cover_holds) l57 c57 k57
  have h57 := F57.binds (ps := ["bend", "value"]) fun _ _ _ _ _ _ us hl => match us, hl with | [_, _], _ => rfl
  have g57 := PySem.W.mg_of X G a57
  have F58 := fun_mk (st := s_f_count_holds) l58 c58 k58
  have h58 := F58.binds (ps := ["bend", "value"]) fun _ _ _ _ _ _ us hl => match us, hl with | [_, _], _ => rfl
  have g58 := PySem.W.mg_of X G a58
  have F59 := fun_mk (st := s_f__are_cuts) l59 c59 k59
  have h59 := F59.binds (ps := ["bend", "thing"]) fun _ _ _ _ _ _ us hl => match us, hl with | [_, _], _ => rfl
  have g59 := PySem.W.mg_of X G a59
  have F60 := fun_mk (st := s_f__cut_handles) l60 c60 k60
  have h60 := F60.binds (ps := ["bend", "cuts"]) fun _ _ _ _ _ _ us hl => match us, hl with | [_, _], _ => rfl
  have g60 := PySem.W.mg_of X G a60
  have F61 := fun_mk (st := s_f__law_odd_right) l61 c61 k61
  have h61 := F61.binds (ps := ["_law_made", "_law_calm", "_law_odd"]) fun _ _ _ _ _ _ us hl => match us, hl with | [_, _, _], _ => rfl
  have g61 := PySem.W.mg_of X G a61
  have F62 := fun_mk (st := s_f_law) l62 c62 k62
  have F63 := fun_mk (st := s_binit) l63 c63 k63
  have h63 := F63.binds (ps := ["self", "degree", "marks", "handles"]) fun _ _ _ _ _ _ us hl => match us, hl with | [_, _, _, _], _ => rfl
  refine ⟨PySem.W.fnOf "law" "law" (defArgs s_f_law) (defBody s_f_law) (defScope s_f_law) .none kV62 dc62 pm62 an62 cd62 ct62, fun s v => .of_eq rfl, fun base _ _ => ?_⟩
  let P : Program := l.prog
  have Gw := F_is_whole (P := P) (w := w) (base := base) Z  F0 g0 h0
  have Gs := F_is_sequence (P := P) (w := w) (base := base) Z  F1 g1 h1
  have Gv := F_is_value (P := P) (w := w) (base := base) Z Gw F2 g2 h2
  have Gvs := F_are_values (P := P) (w := w) (base := base) Z Gv Gs F3 g3 h3
  have Gp := F_pair (P := P) (w := w) (base := base) Z  F4 g4 h4
  have Gps := F_pairs (P := P) (w := w) (base := base) Z Gp F5 g5 h5
  have Gr := F_ratio (P := P) (w := w) (base := base) Z  F6 g6 h6
  have Ga0 := F_added (P := P) (w := w) (base := base)  Gr F7 g7 h7
  have Ga := F_addO Ga0
  have Gt0 := F_taken (P := P) (w := w) (base := base)  Gr F8 g8 h8
  have Gt := F_subO Gt0
  have Gm0 := F_multiplied (P := P) (w := w) (base := base)  Gr F9 g9 h9
  have Gm := F_mulO Gm0
  have Gd0 := F_divided (P := P) (w := w) (base := base)  Gr F10 g10 h10
  have Gd := F_divO Gd0
  have Gl0 := F_is_less (P := P) (w := w) (base := base)   F12 g12 h12
  have Gl := F_lessO Gl0
  have Gtot := F_total (P := P) (w := w) (base := base) Z Zz Ga F11 g11 h11
  have Gk := F_knots_of (P := P) (w := w) (base := base) Z Gps F15 g15 h15
  have Gsh := F_share (P := P) (w := w) (base := base)  Zz Gm Gd F21 g21 h21
  have Gwt := F_weight (P := P) (w := w) (base := base)  Ga Gt Gsh F20 g20 h20
  have Gah := F_knot_ahead (P := P) (w := w) (base := base) Z Gl F19 g19 h19
  have Git := F_is_time (P := P) (w := w) (base := base)  Gv Gp Gl F16 g16 h16
  have Gtw := F_time_within (P := P) (w := w) (base := base)  Git Gp F17 g17 h17
  have Gws := F_weights (P := P) (w := w) (base := base) Z Zz Zo Gtw Gk Gah Gwt F18 g18 h18
  have Ghc := F_handle_count (P := P) (w := w) (base := base) Z  F14 g14 h14
  have Gam := F_are_marks (P := P) (w := w) (base := base) Z Gvs Gps Gl F13 g13 h13
  have CB := C_bend (P := P) (w := w) (base := base) Z Bf Gw Gam Gvs Ghc Gps (PySem.W.mg_of X G aC) F63 ⟨mk, a63, i63, kc⟩ h63
  have xns : XAll mg tabS.xnm := ⟨.inr (.inr (.inl ⟨rfl, rfl, PySem.W.mg_of X G b_comb⟩)), ⟨.inr (.inr (.inr ⟨rfl, rfl, PySem.W.mg_of X G b_lcm⟩)), ⟨.inl ⟨rfl, rfl, PySem.W.mg_none_of X G b_max⟩, trivial⟩⟩⟩
  let ZC : Cls := ⟨fun n => ([C] : List Addr).getD n 0, fun n => ([[("degree" : Str), ("marks" : Str), ("handles" : Str)]] : List (List Str)).getD n [], fun n => ([f7, f8, f9, f10, f12, f18, f0, f1, f11, f2, f3, f4, f5, f6, f26, f27, f14, f15, f16, f17, f28, f29, f30, f31, f32, f33, f34, f35, f36, f37, f38, f39, f40, f41, f42, f43, f44, f45, f46, f47, f48, f49, f50, f51, f52, f53, f54, f55, f56, f57, f58, f59, f60, f61, fa] : List Addr).getD n 0, P, w⟩
  obtain ⟨nd7, np7, nk7, nb7, no7⟩ := nat_at (Z := ZC) g7 (N_op (Z := ZC) Ga) (by decide)
  obtain ⟨nd8, np8, nk8, nb8, no8⟩ := nat_at (Z := ZC) g8 (N_op (Z := ZC) Gt) (by decide)
  obtain ⟨nd9, np9, nk9, nb9, no9⟩ := nat_at (Z := ZC) g9 (N_op (Z := ZC) Gm) (by decide)
  obtain ⟨nd10, np10, nk10, nb10, no10⟩ := nat_at (Z := ZC) g10 (N_op (Z := ZC) Gd) (by decide)
  obtain ⟨nd12, np12, nk12, nb12, no12⟩ := nat_at (Z := ZC) g12 (N_less (Z := ZC) Gl) (by decide)
  obtain ⟨nd18, np18, nk18, nb18, no18⟩ := nat_at (Z := ZC) g18 (N_weights (Z := ZC) Gws) (by decide)
  obtain ⟨nd0, np0, nk0, nb0, no0⟩ := nat_at (Z := ZC) g0 (N_whole (Z := ZC) Gw) (by decide)
  obtain ⟨nd1, np1, nk1, nb1, no1⟩ := nat_at (Z := ZC) g1 (N_seq (Z := ZC) Gs) (by decide)
  obtain ⟨nd11, np11, nk11, nb11, no11⟩ := nat_at (Z := ZC) g11 (N_total (Z := ZC) Gtot) (by decide)
  let who : List Who := [(f7, nd7, np7),
    (f8, nd8, np8),
    (f9, nd9, np9),
    (f10, nd10, np10),
    (f12, nd12, np12),
    (f18, nd18, np18),
    (f0, nd0, np0),
    (f1, nd1, np1),
    (f11, nd11, np11),
    (f2, PySem.W.fnOf "is_value" "is_value" (defArgs s_is_value) (defBody s_is_value) (defScope s_is_value) .none kV2 dc2 pm2 an2 cd2 ct2, [("thing" : Str)]),
    (f3, PySem.W.fnOf "are_values" "are_values" (defArgs s_are_values) (defBody s_are_values) (defScope s_are_values) .none kV3 dc3 pm3 an3 cd3 ct3, [("thing" : Str)]),
    (f4, PySem.W.fnOf "pair" "pair" (defArgs s_pair) (defBody s_pair) (defScope s_pair) .none kV4 dc4 pm4 an4 cd4 ct4, [("worth" : Str)]),
    (f5, PySem.W.fnOf "pairs" "pairs" (defArgs s_pairs) (defBody s_pairs) (defScope s_pairs) .none kV5 dc5 pm5 an5 cd5 ct5, [("worths" : Str)]),
    (f6, PySem.W.fnOf "ratio" "ratio" (defArgs s_ratio) (defBody s_ratio) (defScope s_ratio) .none kV6 dc6 pm6 an6 cd6 ct6, [("p" : Str), ("q" : Str)]),
    (f26, PySem.W.fnOf "halfway" "halfway" (defArgs s_f_halfway) (defBody s_f_halfway) (defScope s_f_halfway) .none kV26 dc26 pm26 an26 cd26 ct26, [("a" : Str), ("b" : Str)]),
    (f27, PySem.W.fnOf "sign_of" "sign_of" (defArgs s_f_sign_of) (defBody s_f_sign_of) (defScope s_f_sign_of) .none kV27 dc27 pm27 an27 cd27 ct27, [("n" : Str)]),
    (f14, PySem.W.fnOf "handle_count" "handle_count" (defArgs s_handle_count) (defBody s_handle_count) (defScope s_handle_count) .none kV14 dc14 pm14 an14 cd14 ct14, [("degree" : Str), ("marks" : Str)]),
    (f15, PySem.W.fnOf "knots_of" "knots_of" (defArgs s_knots_of) (defBody s_knots_of) (defScope s_knots_of) .none kV15 dc15 pm15 an15 cd15 ct15, [("degree" : Str), ("marks" : Str)]),
    (f16, PySem.W.fnOf "is_time" "is_time" (defArgs s_is_time) (defBody s_is_time) (defScope s_is_time) .none kV16 dc16 pm16 an16 cd16 ct16, [("marks" : Str), ("thing" : Str)]),
    (f17, PySem.W.fnOf "time_within" "time_within" (defArgs s_time_within) (defBody s_time_within) (defScope s_time_within) .none kV17 dc17 pm17 an17 cd17 ct17, [("marks" : Str), ("time" : Str)]),
    (f28, PySem.W.fnOf "value" "value" (defArgs s_f_value) (defBody s_f_value) (defScope s_f_value) .none kV28 dc28 pm28 an28 cd28 ct28, [("bend" : Str), ("time" : Str)]),
    (f29, PySem.W.fnOf "mixed" "mixed" (defArgs s_f_mixed) (defBody s_f_mixed) (defScope s_f_mixed) .none kV29 dc29 pm29 an29 cd29 ct29, [("early" : Str), ("late" : Str), ("low" : Str), ("high" : Str)]),
    (f30, PySem.W.fnOf "polar_value" "polar_value" (defArgs s_f_polar_value) (defBody s_f_polar_value) (defScope s_f_polar_value) .none kV30 dc30 pm30 an30 cd30 ct30, [("powers" : Str), ("times" : Str)]),
    (f31, PySem.W.fnOf "_product_sums" "_product_sums" (defArgs s_f__product_sums) (defBody s_f__product_sums) (defScope s_f__product_sums) .none kV31 dc31 pm31 an31 cd31 ct31, [("times" : Str)]),
    (f32, PySem.W.fnOf "rows_of" "rows_of" (defArgs s_f_rows_of) (defBody s_f_rows_of) (defScope s_f_rows_of) .none kV32 dc32 pm32 an32 cd32 ct32, [("bend" : Str)]),
    (f33, PySem.W.fnOf "_powers_behind" "_powers_behind" (defArgs s_f__powers_behind) (defBody s_f__powers_behind) (defScope s_f__powers_behind) .none kV33 dc33 pm33 an33 cd33 ct33, [("bend" : Str), ("knots" : Str), ("at" : Str)]),
    (f34, PySem.W.fnOf "sign_there" "sign_there" (defArgs s_f_sign_there) (defBody s_f_sign_there) (defScope s_f_sign_there) .none kV34 dc34 pm34 an34 cd34 ct34, [("bend" : Str), ("when" : Str)]),
    (f35, PySem.W.fnOf "drawn_handles" "drawn_handles" (defArgs s_f_drawn_handles) (defBody s_f_drawn_handles) (defScope s_f_drawn_handles) .none kV35 dc35 pm35 an35 cd35 ct35, [("degree" : Str), ("marks" : Str), ("rows" : Str)]),
    (f36, PySem.W.fnOf "whole_powers" "whole_powers" (defArgs s_f_whole_powers) (defBody s_f_whole_powers) (defScope s_f_whole_powers) .none kV36 dc36 pm36 an36 cd36 ct36, [("powers" : Str)]),
    (f37, PySem.W.fnOf "_plain" "_plain" (defArgs s_f__plain) (defBody s_f__plain) (defScope s_f__plain) .none kV37 dc37 pm37 an37 cd37 ct37, [("whole" : Str)]),
    (f38, PySem.W.fnOf "chain_of" "chain_of" (defArgs s_f_chain_of) (defBody s_f_chain_of) (defScope s_f_chain_of) .none kV38 dc38 pm38 an38 cd38 ct38, [("powers" : Str)]),
    (f39, PySem.W.fnOf "_turned_remainder" "_turned_remainder" (defArgs s_f__turned_remainder) (defBody s_f__turned_remainder) (defScope s_f__turned_remainder) .none kV39 dc39 pm39 an39 cd39 ct39, [("one" : Str), ("other" : Str)]),
    (f40, PySem.W.fnOf "_quotient" "_quotient" (defArgs s_f__quotient) (defBody s_f__quotient) (defScope s_f__quotient) .none kV40 dc40 pm40 an40 cd40 ct40, [("one" : Str), ("other" : Str)]),
    (f41, PySem.W.fnOf "_without_top" "_without_top" (defArgs s_f__without_top) (defBody s_f__without_top) (defScope s_f__without_top) .none kV41 dc41 pm41 an41 cd41 ct41, [("rest" : Str), ("other" : Str), ("scale" : Str), ("many" : Str)]),
    (f42, PySem.W.fnOf "_value_at" "_value_at" (defArgs s_f__value_at) (defBody s_f__value_at) (defScope s_f__value_at) .none kV42 dc42 pm42 an42 cd42 ct42, [("whole" : Str), ("when" : Str)]),
    (f43, PySem.W.fnOf "sign_at" "sign_at" (defArgs s_f_sign_at) (defBody s_f_sign_at) (defScope s_f_sign_at) .none kV43 dc43 pm43 an43 cd43 ct43, [("whole" : Str), ("when" : Str)]),
    (f44, PySem.W.fnOf "_changes" "_changes" (defArgs s_f__changes) (defBody s_f__changes) (defScope s_f__changes) .none kV44 dc44 pm44 an44 cd44 ct44, [("chain" : Str), ("when" : Str)]),
    (f45, PySem.W.fnOf "_roots_between" "_roots_between" (defArgs s_f__roots_between) (defBody s_f__roots_between) (defScope s_f__roots_between) .none kV45 dc45 pm45 an45 cd45 ct45, [("chain" : Str), ("low" : Str), ("high" : Str)]),
    (f46, PySem.W.fnOf "root_ranges" "root_ranges" (defArgs s_f_root_ranges) (defBody s_f_root_ranges) (defScope s_f_root_ranges) .none kV46 dc46 pm46 an46 cd46 ct46, [("chain" : Str), ("low" : Str), ("high" : Str)]),
    (f47, PySem.W.fnOf "_has_root_end" "_has_root_end" (defArgs s_f__has_root_end) (defBody s_f__has_root_end) (defScope s_f__has_root_end) .none kV47 dc47 pm47 an47 cd47 ct47, [("chain" : Str), ("low" : Str), ("high" : Str)]),
    (f48, PySem.W.fnOf "handles_between" "handles_between" (defArgs s_f_handles_between) (defBody s_f_handles_between) (defScope s_f_handles_between) .none kV48 dc48 pm48 an48 cd48 ct48, [("bend" : Str), ("rows" : Str), ("low" : Str), ("high" : Str)]),
    (f49, PySem.W.fnOf "_rows_between" "_rows_between" (defArgs s_f__rows_between) (defBody s_f__rows_between) (defScope s_f__rows_between) .none kV49 dc49 pm49 an49 cd49 ct49, [("rows" : Str), ("low" : Str), ("high" : Str)]),
    (f50, PySem.W.fnOf "sign_changes" "sign_changes" (defArgs s_f_sign_changes) (defBody s_f_sign_changes) (defScope s_f_sign_changes) .none kV50 dc50 pm50 an50 cd50 ct50, [("handles" : Str)]),
    (f51, PySem.W.fnOf "found_places" "found_places" (defArgs s_f_found_places) (defBody s_f_found_places) (defScope s_f_found_places) .none kV51 dc51 pm51 an51 cd51 ct51, [("bend" : Str)]),
    (f52, PySem.W.fnOf "_inner_places" "_inner_places" (defArgs s_f__inner_places) (defBody s_f__inner_places) (defScope s_f__inner_places) .none kV52 dc52 pm52 an52 cd52 ct52, [("start" : Str), ("end" : Str), ("powers" : Str)]),
    (f53, PySem.W.fnOf "places_hold" "places_hold" (defArgs s_f_places_hold) (defBody s_f_places_hold) (defScope s_f_places_hold) .none kV53 dc53 pm53 an53 cd53 ct53, [("bend" : Str), ("value" : Str)]),
    (f54, PySem.W.fnOf "_is_told" "_is_told" (defArgs s_f__is_told) (defBody s_f__is_told) (defScope s_f__is_told) .none kV54 dc54 pm54 an54 cd54 ct54, [("bend" : Str), ("found" : Str), ("at" : Str), ("thing" : Str)]),
    (f55, PySem.W.fnOf "_ends_ahead" "_ends_ahead" (defArgs s_f__ends_ahead) (defBody s_f__ends_ahead) (defScope s_f__ends_ahead) .none kV55 dc55 pm55 an55 cd55 ct55, [("place" : Str), ("when" : Str)]),
    (f56, PySem.W.fnOf "_begins_behind" "_begins_behind" (defArgs s_f__begins_behind) (defBody s_f__begins_behind) (defScope s_f__begins_behind) .none kV56 dc56 pm56 an56 cd56 ct56, [("place" : Str), ("when" : Str)]),
    (f57, PySem.W.fnOf "cover_holds" "cover_holds" (defArgs s_f_cover_holds) (defBody s_f_cover_holds) (defScope s_f_cover_holds) .none kV57 dc57 pm57 an57 cd57 ct57, [("bend" : Str), ("value" : Str)]),
    (f58, PySem.W.fnOf "count_holds" "count_holds" (defArgs s_f_count_holds) (defBody s_f_count_holds) (defScope s_f_count_holds) .none kV58 dc58 pm58 an58 cd58 ct58, [("bend" : Str), ("value" : Str)]),
    (f59, PySem.W.fnOf "_are_cuts" "_are_cuts" (defArgs s_f__are_cuts) (defBody s_f__are_cuts) (defScope s_f__are_cuts) .none kV59 dc59 pm59 an59 cd59 ct59, [("bend" : Str), ("thing" : Str)]),
    (f60, PySem.W.fnOf "_cut_handles" "_cut_handles" (defArgs s_f__cut_handles) (defBody s_f__cut_handles) (defScope s_f__cut_handles) .none kV60 dc60 pm60 an60 cd60 ct60, [("bend" : Str), ("cuts" : Str)]),
    (f61, PySem.W.fnOf "_law_odd_right" "_law_odd_right" (defArgs s_f__law_odd_right) (defBody s_f__law_odd_right) (defScope s_f__law_odd_right) .none kV61 dc61 pm61 an61 cd61 ct61, [("_law_made" : Str), ("_law_calm" : Str), ("_law_odd" : Str)]),
    (fa, PySem.W.fnOf "law" "law" (defArgs s_f_law) (defBody s_f_law) (defScope s_f_law) .none kV62 dc62 pm62 an62 cd62 ct62, [("_law_script" : Str)])]
  let A : Prog := ⟨P, w, K, mg, base, ZC, tabS, tabD, fun n => who.getD n (0, nd7, []), mkC, globD, fuel⟩
  have good : Paired (Good A) who tabD := .cons (good_nat (A := A) nk7 nb7 no7) (.cons (good_nat (A := A) nk8 nb8 no8) (.cons (good_nat (A := A) nk9 nb9 no9) (.cons (good_nat (A := A) nk10 nb10 no10) (.cons (good_nat (A := A) nk12 nb12 no12) (.cons (good_nat (A := A) nk18 nb18 no18) (.cons (good_nat (A := A) nk0 nb0 no0) (.cons (good_nat (A := A) nk1 nb1 no1) (.cons (good_nat (A := A) nk11 nb11 no11) (.cons (good_fn (A := A) (st := s_f_is_value) F2 h2 sc_f_is_value rfl rfl ch_f_is_value) (.cons (good_fn (A := A) (st := s_f_are_values) F3 h3 sc_f_are_values rfl rfl ch_f_are_values) (.cons (good_fn (A := A) (st := s_f_pair) F4 h4 sc_f_pair rfl rfl ch_f_pair) (.cons (good_fn (A := A) (st := s_f_pairs) F5 h5 sc_f_pairs rfl rfl ch_f_pairs) (.cons (good_fn (A := A) (st := s_f_ratio) F6 h6 sc_f_ratio rfl rfl ch_f_ratio) (.cons (good_fn (A := A) F26 h26 sc_f_halfway rfl rfl ch_f_halfway) (.cons (good_fn (A := A) F27 h27 sc_f_sign_of rfl rfl ch_f_sign_of) (.cons (good_fn (A := A) (st := s_f_handle_count) F14 h14 sc_f_handle_count rfl rfl ch_f_handle_count) (.cons (good_fn (A := A) (st := s_f_knots_of) F15 h15 sc_f_knots_of rfl rfl ch_f_knots_of) (.cons (good_fn (A := A) (st := s_f_is_time) F16 h16 sc_f_is_time rfl rfl ch_f_is_time) (.cons (good_fn (A := A) (st := s_f_time_within) F17 h17 sc_f_time_within rfl rfl ch_f_time_within) (.cons (good_fn (A := A) F28 h28 sc_f_value rfl rfl ch_f_value) (.cons (good_fn (A := A) F29 h29 sc_f_mixed rfl rfl ch_f_mixed) (.cons (good_fn (A := A) F30 h30 sc_f_polar_value rfl rfl ch_f_polar_value) (.cons (good_fn (A := A) F31 h31 sc_f__product_sums rfl rfl ch_f__product_sums) (.cons (good_fn (A := A) F32 h32 sc_f_rows_of rfl rfl ch_f_rows_of) (.cons (good_fn (A := A) F33 h33 sc_f__powers_behind rfl rfl ch_f__powers_behind) (.cons (good_fn (A := A) F34 h34 sc_f_sign_there rfl rfl ch_f_sign_there) (.cons (good_fn (A := A) F35 h35 sc_f_drawn_handles rfl rfl ch_f_drawn_handles) (.cons (good_fn (A := A) F36 h36 sc_f_whole_powers rfl rfl ch_f_whole_powers) (.cons (good_fn (A := A) F37 h37 sc_f__plain rfl rfl ch_f__plain) (.cons (good_fn (A := A) F38 h38 sc_f_chain_of rfl rfl ch_f_chain_of) (.cons (good_fn (A := A) F39 h39 sc_f__turned_remainder rfl rfl ch_f__turned_remainder) (.cons (good_fn (A := A) F40 h40 sc_f__quotient rfl rfl ch_f__quotient) (.cons (good_fn (A := A) F41 h41 sc_f__without_top rfl rfl ch_f__without_top) (.cons (good_fn (A := A) F42 h42 sc_f__value_at rfl rfl ch_f__value_at) (.cons (good_fn (A := A) F43 h43 sc_f_sign_at rfl rfl ch_f_sign_at) (.cons (good_fn (A := A) F44 h44 sc_f__changes rfl rfl ch_f__changes) (.cons (good_fn (A := A) F45 h45 sc_f__roots_between rfl rfl ch_f__roots_between) (.cons (good_fn (A := A) F46 h46 sc_f_root_ranges rfl rfl ch_f_root_ranges) (.cons (good_fn (A := A) F47 h47 sc_f__has_root_end rfl rfl ch_f__has_root_end) (.cons (good_fn (A := A) F48 h48 sc_f_handles_between rfl rfl ch_f_handles_between) (.cons (good_fn (A := A) F49 h49 sc_f__rows_between rfl rfl ch_f__rows_between) (.cons (good_fn (A := A) F50 h50 sc_f_sign_changes rfl rfl ch_f_sign_changes) (.cons (good_fn (A := A) F51 h51 sc_f_found_places rfl rfl ch_f_found_places) (.cons (good_fn (A := A) F52 h52 sc_f__inner_places rfl rfl ch_f__inner_places) (.cons (good_fn (A := A) F53 h53 sc_f_places_hold rfl rfl ch_f_places_hold) (.cons (good_fn (A := A) F54 h54 sc_f__is_told rfl rfl ch_f__is_told) (.cons (good_fn (A := A) F55 h55 sc_f__ends_ahead rfl rfl ch_f__ends_ahead) (.cons (good_fn (A := A) F56 h56 sc_f__begins_behind rfl rfl ch_f__begins_behind) (.cons (good_fn (A := A) F57 h57 sc_f_cover_holds rfl rfl ch_f_cover_holds) (.cons (good_fn (A := A) F58 h58 sc_f_count_holds rfl rfl ch_f_count_holds) (.cons (good_fn (A := A) F59 h59 sc_f__are_cuts rfl rfl ch_f__are_cuts) (.cons (good_fn (A := A) F60 h60 sc_f__cut_handles rfl rfl ch_f__cut_handles) (.cons (good_fn (A := A) F61 h61 sc_f__law_odd_right rfl rfl ch_f__law_odd_right) (.cons (good_fn (A := A) F62 (F62.binds (ps := ["_law_script"]) fun _ _ _ _ _ _ us hl => match us, hl with | [_], _ => rfl) sc_f_law rfl rfl ch_f_lawF) (.nil)))))))))))))))))))))))))))))))))))))))))))))))))))))))
  have fas : Paired (fun x (t : Who) => mg x = some (.ref t.1)) tabS.fnm (who.take 55) := .cons (g7) (.cons (g8) (.cons (g9) (.cons (g10) (.cons (g12) (.cons (g18) (.cons (g0) (.cons (g1) (.cons (g11) (.cons (g2) (.cons (g3) (.cons (g4) (.cons (g5) (.cons (g6) (.cons (g26) (.cons (g27) (.cons (g14) (.cons (g15) (.cons (g16) (.cons (g17) (.cons (g28) (.cons (g29) (.cons (g30) (.cons (g31) (.cons (g32) (.cons (g33) (.cons (g34) (.cons (g35) (.cons (g36) (.cons (g37) (.cons (g38) (.cons (g39) (.cons (g40) (.cons (g41) (.cons (g42) (.cons (g43) (.cons (g44) (.cons (g45) (.cons (g46) (.cons (g47) (.cons (g48) (.cons (g49) (.cons (g50) (.cons (g51) (.cons (g52) (.cons (g53) (.cons (g54) (.cons (g55) (.cons (g56) (.cons (g57) (.cons (g58) (.cons (g59) (.cons (g60) (.cons (g61) (.cons (PySem.W.mg_of X G a62) (.nil)))))))))))))))))))))))))))))))))))))))))))))))))))))))
  have mts : ∀ p ∈ tabS.mth, PySem.W.findIn K (.ref (ZC.at_ p.1)) p.2.1 = some (some (.ref (A.who p.2.2).1)) ∧ PySem.W.isFn K (.ref (A.who p.2.2).1) = true ∧ p.2.2 < tabD.length := by
    show ∀ p ∈ ([] : List (Nat × Str × Nat)), _
    exact fun p h => nomatch h
  have kws_ : ∀ p ∈ ([] : List (Nat × Str × List Str × List Nat)), mg p.2.1 = some (.ref (A.who p.1).1) ∧ p.1 < tabD.length ∧ KBinds K (A.who p.1).2.1 (A.who p.1).2.2 p.2.2.1 (gK .none p.2.2.2) (gK .non p.2.2.2) := by
    exact fun p h => nomatch h
  have ok : ProgOk A := {
    defs := fun n d hx => good_at good n d hx
    at_ := fun n => by
      match n with
      | 0 => rfl
      | 1 => rfl
      | 2 => rfl
      | 3 => rfl
      | 4 => rfl
      | 5 => rfl
      | 6 => rfl
      | 7 => rfl
      | 8 => rfl
      | 9 => rfl
      | 10 => rfl
      | 11 => rfl
      | 12 => rfl
      | 13 => rfl
      | 14 => rfl
      | 15 => rfl
      | 16 => rfl
      | 17 => rfl
      | 18 => rfl
      | 19 => rfl
      | 20 => rfl
      | 21 => rfl
      | 22 => rfl
      | 23 => rfl
      | 24 => rfl
      | 25 => rfl
      | 26 => rfl
      | 27 => rfl
      | 28 => rfl
      | 29 => rfl
      | 30 => rfl
      | 31 => rfl
      | 32 => rfl
      | 33 => rfl
      | 34 => rfl
      | 35 => rfl
      | 36 => rfl
      | 37 => rfl
      | 38 => rfl
      | 39 => rfl
      | 40 => rfl
      | 41 => rfl
      | 42 => rfl
      | 43 => rfl
      | 44 => rfl
      | 45 => rfl
      | 46 => rfl
      | 47 => rfl
      | 48 => rfl
      | 49 => rfl
      | 50 => rfl
      | 51 => rfl
      | 52 => rfl
      | 53 => rfl
      | 54 => rfl
      | n + 55 => rfl
    nm := fun n x h1 => name_at (t0 := (0, nd7, [])) fas (who.drop 55) n x h1
    mt := fun c x n h => mts (c, x, n) h
    kw := fun n x ks ord h => kws_ (n, x, ks, ord) h
    gl := fun n x v h1 h2 => by
      match n, h1, h2 with
      | 0, h1, h2 => cases h1; cases h2; exact glob_pair Zz rfl
      | 1, h1, h2 => cases h1; cases h2; exact glob_pair Zo rfl
      | n + 2, h1, _ => cases h1
    mkc := fun c x hx => by
      match c, hx with
      | 0, hx => cases hx; exact ⟨_, R_bend, by decide, CB, fun ps fs hm Kf q => mkBend_ok (Z := ZC) (C := C) rfl rfl hm q⟩
      | n + 1, hx => cases hx
    cl := fun c fls hx => by
      match c, hx with
      | 0, hx =>
        cases hx
        refine ⟨Bf.cls, fun k fl hk => ?_, by decide +kernel, rfl⟩
        match k, hk with
        | 0, hk => cases hk; exact Bf.deg
        | 1, hk => cases hk; exact Bf.mar
        | 2, hk => cases hk; exact Bf.han
        | k + 3, hk => cases hk
      | n + 1, hx => cases hx
    blt := Z
    enu := PySem.W.mg_none_of X G b_enumerate
    xn := fun k x h => xns.get k x h
    zp := ⟨rfl, rfl⟩
    len := (by decide : tabS.fnm.length ≤ tabD.length) }
  have ff := facts_all ok rfl rfl rfl rfl
  have Dd : FnC P w K mg base 1 "_law_deal" C_deal := F_deal Z F23 g23 h23
  have Dw : FnC P w K mg base 1 "_law_draw" C_ldraw := F_ldraw Z F24 g24 h24
  have Dp : FnC P w K mg base 2 "_law_pick" C_pick31 := F_pick31 Z Dw F25 g25 h25
  have Da : FnC P w K mg base 9 "_law_any" (C_any K 6) := F_any Z Dw Dp F22 g22 h22 6
  have hM : NoTup K (absP ZC made) := made_noTup ⟨Bf.cls, oha, ohn, oht, ohm⟩ rfl (kit_own okt)
  have D1 : FnC P w K mg base (13 + 3 * deep) "places_hold" (C_noPap K (absP ZC made)) := F_ph Z (found_of (A := A) ok rfl rfl rfl rfl rfl ff) F53 g53 h53
  have D2 : FnC P w K mg base 2 "cover_holds" (C_noPap K (absP ZC calm)) := F_cov (F_arecuts (j := 0) Z F59 g59 h59) F57 g57 h57
  have D3 : FnC P w K mg base 2 "count_holds" (C_noPap K (absP ZC made)) := F_cnt (F_arecuts (j := 0) Z F59 g59 h59) F58 g58 h58
  exact F_law31 (A := A) ok rfl rfl rfl rfl rfl ff Z (PySem.W.mg_none_of X G b_max) (PySem.W.mg_none_of X G b_min) hM Dd Dp Da D1 D2 D3 (fnc_of ok ff rfl (by show _ < tabD.length; decide)) F62
end EV
open PySem PySem.W PyProof.Rows
set_option maxHeartbeats 0
theorem PySem.Challenge.cw_handlebends_k31_any_values_as_places_holds : PySem.Challenge.rw_handlebends_k31_any_values_as_places.Holds := by
  w_on; o_law; k_head; (case hw => w_witness2)
  k_fill
  refine L2.walk_of (l := PySem.Challenge.rw_handlebends_k31_any_values_as_places) (n := 63) (k := 14 + 3 * EV.deep + 1) (x := "_law_script") (CX := fun _ => L2.CX0) (sp := fun w => AL.spOf _ EV.C_lawE) rfl (by decide) rfl ⟨rfl, by decide, by decide⟩ (fun w h Y => PySem.W.kIn_of Y) ?F (fun _ _ a ns _ _ hS => EV.sp_lawE hS) (fun _ _ _ _ _ z => z)
  case F =>
    intro w mg fa h KX G hmg
    refine' EV.all_mk KX G hmg ?aC ?a0 ?l0 ?c0 ?k0 ?a1 ?l1 ?c1 ?k1 ?a2 ?l2 ?c2 ?k2 ?a3 ?l3 ?c3 ?k3 ?a4 ?l4 ?c4 ?k4 ?a5 ?l5 ?c5 ?k5 ?a6 ?l6 ?c6 ?k6 ?a7 ?l7 ?c7 ?k7 ?a8 ?l8 ?c8 ?k8 ?a9 ?l9 ?c9 ?k9 ?a10 ?l10 ?c10 ?k10 ?a11 ?l11 ?c11 ?k11 ?a12 ?l12 ?c12 ?k12 ?a13 ?l13 ?c13 ?k13 ?a14 ?l14 ?c14 ?k14 ?a15 ?l15 ?c15 ?k15 ?a16 ?l16 ?c16 ?k16 ?a17 ?l17 ?c17 ?k17 ?a18 ?l18 ?c18 ?k18 ?a19 ?l19 ?c19 ?k19 ?a20 ?l20 ?c20 ?k20 ?a21 ?l21 ?c21 ?k21 ?a22 ?l22 ?c22 ?k22 ?a23 ?l23 ?c23 ?k23 ?a24 ?l24 ?c24 ?k24 ?a25 ?l25 ?c25 ?k25 ?a26 ?l26 ?c26 ?k26 ?a27 ?l27 ?c27 ?k27 ?a28 ?l28 ?c28 ?k28 ?a29 ?l29 ?c29 ?k29 ?a30 ?l30 ?c30 ?k30 ?a31 ?l31 ?c31 ?k31 ?a32 ?l32 ?c32 ?k32 ?a33 ?l33 ?c33 ?k33 ?a34 ?l34 ?c34 ?k34 ?a35 ?l35 ?c35 ?k35 ?a36 ?l36 ?c36 ?k36 ?a37 ?l37 ?c37 ?k37 ?a38 ?l38 ?c38 ?k38 ?a39 ?l39 ?c39 ?k39 ?a40 ?l40 ?c40 ?k40 ?a41 ?l41 ?c41 ?k41 ?a42 ?l42 ?c42 ?k42 ?a43 ?l43 ?c43 ?k43 ?a44 ?l44 ?c44 ?k44 ?a45 ?l45 ?c45 ?k45 ?a46 ?l46 ?c46 ?k46 ?a47 ?l47 ?c47 ?k47 ?a48 ?l48 ?c48 ?k48 ?a49 ?l49 ?c49 ?k49 ?a50 ?l50 ?c50 ?k50 ?a51 ?l51 ?c51 ?k51 ?a52 ?l52 ?c52 ?k52 ?a53 ?l53 ?c53 ?k53 ?a54 ?l54 ?c54 ?k54 ?a55 ?l55 ?c55 ?k55 ?a56 ?l56 ?c56 ?k56 ?a57 ?l57 ?c57 ?k57 ?a58 ?l58 ?c58 ?k58 ?a59 ?l59 ?c59 ?k59 ?a60 ?l60 ?c60 ?k60 ?a61 ?l61 ?c61 ?k61 ?a62 ?l62 ?c62 ?k62 ?a63 ?i63 ?l63 ?c63 ?k63 ?pg ?hd ?po ?sa ?mk ?kc ?ndegree ?nmarks ?nhandles ?aZERO ?lZERO ?aONE ?lONE ?b_isinstance ?b_len ?b_int ?b_bool ?b_tuple ?b_list ?b_str ?b_all ?b_any ?b_abs ?b_range ?b_zip ?b_enumerate ?b_min ?b_max ?oha ?ohn ?oht ?ohm ?okt ?b_gcd ?b_comb ?b_lcm
    (case aC => k_is)
    (case a0 => k_is)
    (case l0 => k_is)
    (case c0 => k_is)
    (case k0 => k_is)
    (case a1 => k_is)
    (case l1 => k_is)
    (case c1 => k_is)
    (case k1 => k_is)
    (case a2 => k_is)
    (case l2 => k_is)
    (case c2 => k_is)
    (case k2 => k_is)
    (case a3 => k_is)
    (case l3 => k_is)
    (case c3 => k_is)
    (case k3 => k_is)
    (case a4 => k_is)
    (case l4 => k_is)
    (case c4 => k_is)
    (case k4 => k_is)
    (case a5 => k_is)
    (case l5 => k_is)
    (case c5 => k_is)
    (case k5 => k_is)
    (case a6 => k_is)
    (case l6 => k_is)
    (case c6 => k_is)
    (case k6 => k_is)
    (case a7 => k_is)
    (case l7 => k_is)
    (case c7 => k_is)
    (case k7 => k_is)
    (case a8 => k_is)
    (case l8 => k_is)
    (case c8 => k_is)
    (case k8 => k_is)
    (case a9 => k_is)
    (case l9 => k_is)
    (case c9 => k_is)
    (case k9 => k_is)
    (case a10 => k_is)
    (case l10 => k_is)
    (case c10 => k_is)
    (case k10 => k_is)
    (case a11 => k_is)
    (case l11 => k_is)
    (case c11 => k_is)
    (case k11 => k_is)
    (case a12 => k_is)
    (case l12 => k_is)
    (case c12 => k_is)
    (case k12 => k_is)
    (case a13 => k_is)
    (case l13 => k_is)
    (case c13 => k_is)
    (case k13 => k_is)
    (case a14 => k_is)
    (case l14 => k_is)
    (case c14 => k_is)
    (case k14 => k_is)
    (case a15 => k_is)
    (case l15 => k_is)
    (case c15 => k_is)
    (case k15 => k_is)
    (case a16 => k_is)
    (case l16 => k_is)
    (case c16 => k_is)
    (case k16 => k_is)
    (case a17 => k_is)
    (case l17 => k_is)
    (case c17 => k_is)
    (case k17 => k_is)
    (case a18 => k_is)
    (case l18 => k_is)
    (case c18 => k_is)
    (case k18 => k_is)
    (case a19 => k_is)
    (case l19 => k_is)
    (case c19 => k_is)
    (case k19 => k_is)
    (case a20 => k_is)
    (case l20 => k_is)
    (case c20 => k_is)
    (case k20 => k_is)
    (case a21 => k_is)
    (case l21 => k_is)
    (case c21 => k_is)
    (case k21 => k_is)
    (case a22 => k_is)
    (case l22 => k_is)
    (case c22 => k_is)
    (case k22 => k_is)
    (case a23 => k_is)
    (case l23 => k_is)
    (case c23 => k_is)
    (case k23 => k_is)
    (case a24 => k_is)
    (case l24 => k_is)
    (case c24 => k_is)
    (case k24 => k_is)
    (case a25 => k_is)
    (case l25 => k_is)
    (case c25 => k_is)
    (case k25 => k_is)
    (case a26 => k_is)
    (case l26 => k_is)
    (case c26 => k_is)
    (case k26 => k_is)
    (case a27 => k_is)
    (case l27 => k_is)
    (case c27 => k_is)
    (case k27 => k_is)
    (case a28 => k_is)
    (case l28 => k_is)
    (case c28 => k_is)
    (case k28 => k_is)
    (case a29 => k_is)
    (case l29 => k_is)
    (case c29 => k_is)
    (case k29 => k_is)
    (case a30 => k_is)
    (case l30 => k_is)
    (case c30 => k_is)
    (case k30 => k_is)
    (case a31 => k_is)
    (case l31 => k_is)
    (case c31 => k_is)
    (case k31 => k_is)
    (case a32 => k_is)
    (case l32 => k_is)
    (case c32 => k_is)
    (case k32 => k_is)
    (case a33 => k_is)
    (case l33 => k_is)
    (case c33 => k_is)
    (case k33 => k_is)
    (case a34 => k_is)
    (case l34 => k_is)
    (case c34 => k_is)
    (case k34 => k_is)
    (case a35 => k_is)
    (case l35 => k_is)
    (case c35 => k_is)
    (case k35 => k_is)
    (case a36 => k_is)
    (case l36 => k_is)
    (case c36 => k_is)
    (case k36 => k_is)
    (case a37 => k_is)
    (case l37 => k_is)
    (case c37 => k_is)
    (case k37 => k_is)
    (case a38 => k_is)
    (case l38 => k_is)
    (case c38 => k_is)
    (case k38 => k_is)
    (case a39 => k_is)
    (case l39 => k_is)
    (case c39 => k_is)
    (case k39 => k_is)
    (case a40 => k_is)
    (case l40 => k_is)
    (case c40 => k_is)
    (case k40 => k_is)
    (case a41 => k_is)
    (case l41 => k_is)
    (case c41 => k_is)
    (case k41 => k_is)
    (case a42 => k_is)
    (case l42 => k_is)
    (case c42 => k_is)
    (case k42 => k_is)
    (case a43 => k_is)
    (case l43 => k_is)
    (case c43 => k_is)
    (case k43 => k_is)
    (case a44 => k_is)
    (case l44 => k_is)
    (case c44 => k_is)
    (case k44 => k_is)
    (case a45 => k_is)
    (case l45 => k_is)
    (case c45 => k_is)
    (case k45 => k_is)
    (case a46 => k_is)
    (case l46 => k_is)
    (case c46 => k_is)
    (case k46 => k_is)
    (case a47 => k_is)
    (case l47 => k_is)
    (case c47 => k_is)
    (case k47 => k_is)
    (case a48 => k_is)
    (case l48 => k_is)
    (case c48 => k_is)
    (case k48 => k_is)
    (case a49 => k_is)
    (case l49 => k_is)
    (case c49 => k_is)
    (case k49 => k_is)
    (case a50 => k_is)
    (case l50 => k_is)
    (case c50 => k_is)
    (case k50 => k_is)
    (case a51 => k_is)
    (case l51 => k_is)
    (case c51 => k_is)
    (case k51 => k_is)
    (case a52 => k_is)
    (case l52 => k_is)
    (case c52 => k_is)
    (case k52 => k_is)
    (case a53 => k_is)
    (case l53 => k_is)
    (case c53 => k_is)
    (case k53 => k_is)
    (case a54 => k_is)
    (case l54 => k_is)
    (case c54 => k_is)
    (case k54 => k_is)
    (case a55 => k_is)
    (case l55 => k_is)
    (case c55 => k_is)
    (case k55 => k_is)
    (case a56 => k_is)
    (case l56 => k_is)
    (case c56 => k_is)
    (case k56 => k_is)
    (case a57 => k_is)
    (case l57 => k_is)
    (case c57 => k_is)
    (case k57 => k_is)
    (case a58 => k_is)
    (case l58 => k_is)
    (case c58 => k_is)
    (case k58 => k_is)
    (case a59 => k_is)
    (case l59 => k_is)
    (case c59 => k_is)
    (case k59 => k_is)
    (case a60 => k_is)
    (case l60 => k_is)
    (case c60 => k_is)
    (case k60 => k_is)
    (case a61 => k_is)
    (case l61 => k_is)
    (case c61 => k_is)
    (case k61 => k_is)
    (case a62 => k_is)
    (case l62 => k_is)
    (case c62 => k_is)
    (case k62 => k_is)
    (case a63 => k_is)
    (case i63 => k_is)
    (case l63 => k_is)
    (case c63 => k_is)
    (case k63 => k_is)
    (case pg => k_is)
    (case hd => k_is)
    (case po => k_is)
    (case sa => k_is)
    (case mk => k_is)
    (case kc => k_is)
    (case ndegree => k_is)
    (case nmarks => k_is)
    (case nhandles => k_is)
    (case aZERO => k_is)
    (case lZERO => k_is)
    (case aONE => k_is)
    (case lONE => k_is)
    (case b_isinstance => k_is)
    (case b_len => k_is)
    (case b_int => k_is)
    (case b_bool => k_is)
    (case b_tuple => k_is)
    (case b_list => k_is)
    (case b_str => k_is)
    (case b_all => k_is)
    (case b_any => k_is)
    (case b_abs => k_is)
    (case b_range => k_is)
    (case b_zip => k_is)
    (case b_enumerate => k_is)
    (case b_min => k_is)
    (case b_max => k_is)
    (case oha => k_is)
    (case ohn => k_is)
    (case oht => k_is)
    (case ohm => k_is)
    (case okt => k_is)
    (case b_gcd => k_is)
    (case b_comb => k_is)
    (case b_lcm => k_is)
