import PyProof.Rows.All
import Wide.All
import OpenK.AllK
import Wide.FinOn
import Lean
import PyProof.EqAt
import PyProof.EqKinds
import PyProof.TupleCall
import PyProof.NeKinds
import PyProof.EnumMake
import PyProof.Rows.SeqMore2
import PyProof.ZipIter
import PyProof.Rows.SortRev
import PyProof.Rows.SortWalk
import PyProof.Rows.CallKwBuiltin
import PyProof.DictIter
import PyProof.DictWalks
import PyProof.MeetsDict
import PyProof.Conv_int_bool
import PyProof.EqAt
import PyProof.CollectWalk
import PyProof.Rows.SortShell
import PyProof.Rows.Range3
import PyProof.CallFns
import PyProof.StrBlockH
import PySem.Challenge.RW_turnroots_k12_whole_rounds_there_and_bac
set_option Elab.async false
set_option linter.all false
set_option maxRecDepth 100000
set_option maxHeartbeats 8000000
set_option Elab.async false
set_option linter.all false
set_option maxRecDepth 100000
namespace L2
open PySem PySem.Spec PyProof.Rows
abbrev Key := Sum Int Str
def keyIs : Key → Value → Bool
  | .inl k, v => Value.isInt k v
  | .inr x, v => Value.isStrOf x v
def keyH (w : World) : Key → Int
  | .inl k => hashInt k
  | .inr x => hashStr w x
theorem keyIs_shape : ∀ {k : Key} {v : Value}, keyIs k v = true → (∃ i t, k = Sum.inl i ∧ v = Value.int i t) ∨ (∃ x t, k = Sum.inr x ∧ v = Value.str x t)
  | .inl i, v, h => by
    obtain ⟨t, e⟩ := Value.isInt_shape (k := i) (v := v) h
    exact .inl ⟨i, t, rfl, e⟩
  | .inr x, v, h => by
    obtain ⟨t, e⟩ := Value.isStrOf_shape (x := x) (v := v) h
    exact .inr ⟨x, t, rfl, e⟩
theorem keyIs_int (i : Int) (t : Tok) : keyIs (.inl i) (.int i t) = true := by simp [keyIs, Value.isInt]
theorem keyIs_str (x : Str) (t : Tok) : keyIs (.inr x) (.str x t) = true := by simp [keyIs, Value.isStrOf]
theorem key_ll (a b : Int) : decide ((Sum.inl a : Key) = Sum.inl b) = (a == b) := by
  by_cases e : a = b
  · subst e; simp
  · have h : ¬ (Sum.inl a : Key) = Sum.inl b := fun q => e (Sum.inl.inj q)
    rw [decide_eq_false h]
    exact (beq_eq_false_iff_ne.mpr e).symm
theorem key_rr (a b : Str) : decide ((Sum.inr a : Key) = Sum.inr b) = decide (a = b) := by
  by_cases e : a = b
  · subst e; simp
  · have h : ¬ (Sum.inr a : Key) = Sum.inr b := fun q => e (Sum.inr.inj q)
    rw [decide_eq_false h, decide_eq_false e]
theorem key_lr (a : Int) (b : Str) : decide ((Sum.inl a : Key) = Sum.inr b) = false := decide_eq_false (fun q => nomatch q)
theorem key_rl (a : Str) (b : Int) : decide ((Sum.inr a : Key) = Sum.inl b) = false := decide_eq_false (fun q => nomatch q)
def mixKind (prog : Program) (w : World) : PySem.KeyKind prog w Key where
  is := keyIs
  hash := keyH w
  inj := fun v a b ha hb => by
    rcases keyIs_shape ha with ⟨i, t, rfl, rfl⟩ | ⟨x, t, rfl, rfl⟩
    · rcases keyIs_shape hb with ⟨j, u, rfl, e⟩ | ⟨y, u, rfl, e⟩
      · injection e with e1 _; rw [e1]
      · exact nomatch e
    · rcases keyIs_shape hb with ⟨j, u, rfl, e⟩ | ⟨y, u, rfl, e⟩
      · exact nomatch e
      · injection e with e1 _; rw [e1]
  byValue := fun k v h => by
    rcases keyIs_shape h with ⟨i, t, rfl, rfl⟩ | ⟨x, t, rfl, rfl⟩ <;> rfl
  pyHash := fun hv h => by
    rcases keyIs_shape hv with ⟨i, t, rfl, rfl⟩ | ⟨x, t, rfl, rfl⟩
    · exact wpAny_pyHash_int h
    · exact wpAny_pyHash_str h
  eqBool := fun hu hv h => by
    rcases keyIs_shape hu with ⟨i, t, rfl, rfl⟩ | ⟨x, t, rfl, rfl⟩
    · rcases keyIs_shape hv with ⟨j, u, rfl, rfl⟩ | ⟨y, u, rfl, rfl⟩
      · rw [key_ll] at h; exact wpAny_eqBool_int h
      · rw [key_lr] at h; exact SeqAt.EqAt.int_str i t y u _ _ _ _ h
    · rcases keyIs_shape hv with ⟨j, u, rfl, rfl⟩ | ⟨y, u, rfl, rfl⟩
      · rw [key_rl] at h; exact SeqAt.EqAt.str_int x t j u _ _ _ _ h
      · rw [key_rr] at h; exact wpAny_eqBool_str h
  «strs» := fun k x t v h => by
    rcases keyIs_shape h with ⟨i, u, rfl, e⟩ | ⟨y, u, rfl, e⟩
    · exact nomatch e
    · injection e with e1 _
      subst e1
      cases v <;> rfl
theorem mixKind_int (prog : Program) (w : World) (i : Int) (t : Tok) : (mixKind prog w).is (.inl i) (.int i t) = true := keyIs_int i t
theorem mixKind_str (prog : Program) (w : World) (x : Str) (t : Tok) : (mixKind prog w).is (.inr x) (.str x t) = true := keyIs_str x t
end L2
namespace L2
open PySem PySem.Spec PyProof.Rows
inductive V where
  | non | bl (b : Bool) | int (i : Int) | str (x : Str) | byt (b : Array UInt8) | flt (b : UInt64) | ref (a : Addr) | ty (n : String)
  deriving DecidableEq
def RelV : V → Value → Prop
  | .non, u => u = Value.none
  | .bl b, u => u = Value.bool b
  | .int i, u => ∃ t, u = Value.int i t
  | .str x, u => ∃ t, u = Value.str x t
  | .byt b, u => ∃ t, u = Value.bytes b t
  | .flt b, u => ∃ t, u = Value.float b t
  | .ref a, u => u = Value.ref a
  | .ty n, u => u = Value.type n
abbrev Vals : List V → List Value → Prop := Paired RelV
theorem Vals.length {xs : List V} {us : List Value} (r : Vals xs us) : xs.length = us.length := Paired.length r
theorem Vals.get : ∀ {xs : List V} {us : List Value} {i : Nat} {x : V}, Vals xs us → xs[i]? = some x → ∃ u, us[i]? = some u ∧ RelV x u
  | _, _, _, _, .nil, e => by simp at e
  | _, _, 0, _, .cons r _, e => by simp at e; subst e; exact ⟨_, rfl, r⟩
  | _, _, i + 1, x, .cons _ t, e => by
    obtain ⟨u, h1, h2⟩ := Vals.get (i := i) (x := x) t (by simpa using e)
    exact ⟨u, by simpa using h1, h2⟩
theorem Vals.set {x : V} {u : Value} (r : RelV x u) : ∀ {xs : List V} {us : List Value} (i : Nat), Vals xs us → Vals (xs.set i x) (us.set i u)
  | _, _, _, .nil => .nil
  | _, _, 0, .cons _ t => .cons r t
  | _, _, i + 1, .cons q t => .cons q (Vals.set r i t)
theorem Vals.append : ∀ {xs ys : List V} {us ws : List Value}, Vals xs us → Vals ys ws → Vals (xs ++ ys) (us ++ ws)
  | _, _, _, _, .nil, s => s
  | _, _, _, _, .cons r t, s => .cons r (Vals.append t s)
theorem Vals.take : ∀ {xs : List V} {us : List Value} (n : Nat), Vals xs us → Vals (xs.take n) (us.take n)
  | _, _, 0, _ => .nil
  | _, _, _ + 1, .nil => .nil
  | _, _, n + 1, .cons r t => .cons r (Vals.take n t)
theorem Vals.drop : ∀ {xs : List V} {us : List Value} (n : Nat), Vals xs us → Vals (xs.drop n) (us.drop n)
  | _, _, 0, r => r
  | _, _, _ + 1, .nil => .nil
  | _, _, n + 1, .cons _ t => Vals.drop n t
def RelO : Option V → Option Value → Prop
  | some v, some u => RelV v u
  | none, none => True
  | _, _ => False
def KV {κ : Type} : List (κ × V) → List (κ × Value) → Prop := Paired fun (p : κ × V) (q : κ × Value) => p.1 = q.1 ∧ RelV p.2 q.2
def kV : Key → V
  | .inl i => .int i
  | .inr x => .str x
inductive HO where
  | lst (xs : List V)
  | tup (xs : List V)
  | dK (kvs : List (Key × V)) | dT (kvs : List (List Key × V))
  | set (S : Int → Bool) (n : Nat)
  | ins (C dx : Addr) (fs : List (Str × V))
  | own (x : Addr)
  | xd (fs : List (Str × V))
  | met (f x : Addr)
  | rng (lo hi : Int)
  | frz (o : Obj) (u : HO)
  | tbl (ps : Array Value)
  | ext (φ : Heap → Prop)
abbrev Hp := Addr → Option HO
def upd (H : Hp) (a : Addr) (o : HO) : Hp := fun b => if b = a then some o else H b
theorem upd_same {H : Hp} {a : Addr} {o : HO} : upd H a o a = some o := by unfold upd; rw [if_pos rfl]
theorem upd_ne {H : Hp} {a b : Addr} {o : HO} (h : b ≠ a) : upd H a o b = H b := by unfold upd; rw [if_neg h]
theorem ne_of {H : Hp} {a b : Addr} {o u : HO} (h : H a = some o) (h' : H b = some u) (d : o ≠ u) : a ≠ b := by
  intro e; subst e; rw [h] at h'; exact d (Option.some.inj h')
theorem ne_of_none {H : Hp} {a b : Addr} {o : HO} (h : H a = some o) (h' : H b = none) : a ≠ b := by
  intro e; subst e; rw [h] at h'; cases h'
section
variable (P : Program) (w : World)
def ObjOk (H : Hp) (h : Heap) (a : Addr) : HO → Prop
  | .lst xs => xs.length ≤ sizeLine ∧ ∃ (its : List Value) (n : Nat), Vals xs its ∧ h.get? a = some { cls := .type "list", data := .seq its.toArray n }
  | .tup xs => xs.length ≤ sizeLine ∧ ∃ its : List Value, Vals xs its ∧ IsTup h a its.toArray
  | .dK kvs => kvs.length ≤ sizeLine ∧ (a == sysModules) = false ∧ ∃ vs, KV kvs vs ∧ h.DictOf (mixKind P w) a vs
  | .dT kvs => kvs.length ≤ sizeLine ∧ (a == sysModules) = false ∧ ∃ xs : List (List Key × Addr × Value),
      Paired (fun (p : List Key × V) (q : List Key × Addr × Value) => p.1 = q.1 ∧ H q.2.1 = some (.tup (p.1.map kV)) ∧ RelV p.2 q.2.2) kvs xs ∧
      ∃ o es ep, h.get? a = some o ∧ o.ExactDict ∧ o.data = .dict es ep ∧ es.toList = xs.map (entryOfKey (tupleKind (mixKind P w))) ∧ (xs.map (·.1)).Nodup
  | .set S n => h.SetOf (intKind P w) a S n
  | .ins C dx fs => H dx = some (.own a) ∧ fs.length ≤ 1000 ∧ dx ≠ a ∧ h.get? a = some (PySem.W.instObj C dx) ∧
      ∃ mA, h.Ns1 dx mA ∧ (∀ f, RelO (fs.lookup f) (mA f)) ∧ PySem.Within mA (fs.map (·.1))
  | .own _ => ∃ o, h.get? a = some o
  | .xd fs => ∃ mA, h.Ns1 a mA ∧ ∀ f, RelO (fs.lookup f) (mA f)
  | .rng lo hi => ∃ t u v, h.get? a = some { cls := .type "range", data := .fields #[.int lo t, .int hi u, .int 1 v] }
  | .frz o u => h.get? a = some o ∧ ObjOk H h a u
  | .tbl ps => h.get? a = some { cls := .none, data := .fields ps }
  | .met f x => h.get? a = some (PySem.W.methodObj (.ref f) (.ref x))
  | .ext φ => φ h ∧ (∃ o, h.get? a = some o) ∧ ∀ h1 h2 : Heap, φ h1 → (∀ o, h1.get? a = some o → h2.get? a = some o) → φ h2
def HOk (H : Hp) (h : Heap) : Prop := ∀ a o, H a = some o → ObjOk P w H h a o
end
section
variable {P : Program} {w : World} {H H' : Hp} {h h' : Heap} {a : Addr} {o : HO}
theorem ObjOk.lt (x : ObjOk P w H h a o) : a < h.objs.size := by
  cases o with
  | lst xs => obtain ⟨_, _, _, _, e⟩ := x; exact Heap.lt_size e
  | tup xs => obtain ⟨_, _, _, p⟩ := x; exact p.lt
  | dK kvs => obtain ⟨_, _, _, _, o, _, _, e, _⟩ := x; exact Heap.lt_size e
  | dT kvs => obtain ⟨_, _, _, _, o, _, _, e, _⟩ := x; exact Heap.lt_size e
  | set S n => obtain ⟨o, _, _, _, e, _⟩ := x; exact Heap.lt_size e
  | ins C dx fs => obtain ⟨_, _, _, e, _⟩ := x; exact Heap.lt_size e
  | own y => obtain ⟨_, e⟩ := x; exact Heap.lt_size e
  | xd fs => obtain ⟨_, ⟨_, _, _, e, _⟩, _⟩ := x; exact Heap.lt_size e
  | rng lo hi => obtain ⟨_, _, _, e⟩ := x; exact Heap.lt_size e
  | frz ob u => obtain ⟨e, _⟩ := x; exact Heap.lt_size e
  | tbl ps => exact Heap.lt_size (show h.get? a = some _ from x)
  | met f y => exact Heap.lt_size (show h.get? a = some _ from x)
  | ext φ => obtain ⟨_, ⟨_, e⟩, _⟩ := x; exact Heap.lt_size e
theorem Paired.mapP {α β : Type} {F G : α → β → Prop} : ∀ {l₁ : List α} {l₂ : List β}, Paired F l₁ l₂ → (∀ a b, F a b → G a b) → Paired G l₁ l₂
  | _, _, .nil, _ => .nil
  | _, _, .cons r t, f => .cons (f _ _ r) (Paired.mapP t f)
theorem ObjOk.stay (x : ObjOk P w H h a o) (k : ∀ b u, (b = a ∨ H b = some (.own a)) → h.get? b = some u → h'.get? b = some u)
    (ho : ∀ b, H b = some (.own a) → H' b = some (.own a)) (ht : ∀ b xs, H b = some (.tup xs) → H' b = some (.tup xs)) : ObjOk P w H' h' a o := by
  induction o with
  | lst xs => obtain ⟨z, its, n, r, e⟩ := x; exact ⟨z, its, n, r, k _ _ (.inl rfl) e⟩
  | tup xs => obtain ⟨z, its, r, ob, e, c⟩ := x; exact ⟨z, its, r, ob, k _ _ (.inl rfl) e, c⟩
  | dK kvs => obtain ⟨z, y, vs, r, ob, es, ep, e, c⟩ := x; exact ⟨z, y, vs, r, ob, es, ep, k _ _ (.inl rfl) e, c⟩
  | dT kvs =>
    obtain ⟨z, y, xs, r, ob, es, ep, e, c⟩ := x
    exact ⟨z, y, xs, Paired.mapP r fun p q z => ⟨z.1, ht _ _ z.2.1, z.2.2⟩, ob, es, ep, k _ _ (.inl rfl) e, c⟩
  | set S n => obtain ⟨ob, es, ep, t, e, c⟩ := x; exact ⟨ob, es, ep, t, k _ _ (.inl rfl) e, c⟩
  | ins C dx fs =>
    obtain ⟨d, z, ne, e, mA, ⟨od, es, ep, e2, c⟩, r⟩ := x
    exact ⟨ho _ d, z, ne, k _ _ (.inl rfl) e, mA, ⟨od, es, ep, k _ _ (.inr d) e2, c⟩, r⟩
  | own y => obtain ⟨ob, e⟩ := x; exact ⟨ob, k _ _ (.inl rfl) e⟩
  | xd fs => obtain ⟨mA, ⟨od, es, ep, e, c⟩, r⟩ := x; exact ⟨mA, ⟨od, es, ep, k _ _ (.inl rfl) e, c⟩, r⟩
  | rng lo hi => obtain ⟨t, u, v, e⟩ := x; exact ⟨t, u, v, k _ _ (.inl rfl) e⟩
  | frz ob u ih => obtain ⟨e, q⟩ := x; exact ⟨k _ _ (.inl rfl) e, ih q⟩
  | tbl ps =>
    have e : h.get? a = some { cls := .none, data := .fields ps } := x
    show h'.get? a = some { cls := .none, data := .fields ps }
    exact k a _ (.inl rfl) e
  | met f y =>
    have e : h.get? a = some (PySem.W.methodObj (.ref f) (.ref y)) := x
    show h'.get? a = some (PySem.W.methodObj (.ref f) (.ref y))
    exact k a _ (.inl rfl) e
  | ext φ => obtain ⟨p, ⟨o, e⟩, st⟩ := x; exact ⟨st _ _ p fun o q => k _ _ (.inl rfl) q, ⟨o, k _ _ (.inl rfl) e⟩, st⟩
theorem HOk.lt (x : HOk P w H h) (e : H a = some o) : a < h.objs.size := (x a o e).lt
theorem HOk.fresh (x : HOk P w H h) (e : h.objs.size ≤ a) : H a = none := by
  cases q : H a with
  | none => rfl
  | some u => exact absurd (Nat.lt_of_lt_of_le (x.lt q) e) (Nat.lt_irrefl _)
theorem HOk.kept (x : HOk P w H h) (k : ∀ b u, h.get? b = some u → h'.get? b = some u) : HOk P w H h' := fun a o e =>
  (x a o e).stay (fun b u _ q => k b u q) (fun _ q => q) fun _ _ q => q
theorem HOk.laid (x : HOk P w H h) (k : ∀ b u, h.get? b = some u → h'.get? b = some u) (hp : h.objs.size ≤ a) (new : ObjOk P w (upd H a o) h' a o) : HOk P w (upd H a o) h' := fun b u e => by
  have hn := x.fresh hp
  by_cases hb : b = a
  · subst hb; rw [upd_same] at e; cases e; exact new
  · rw [upd_ne hb] at e
    exact (x b u e).stay (fun c v _ q => k c v q) (fun c q => by rw [upd_ne (ne_of_none q hn)]; exact q) fun c xs q => by rw [upd_ne (ne_of_none q hn)]; exact q
end
def Rd (H : Hp) (a : Addr) (u : HO) : Prop := H a = some u ∨ ∃ o, H a = some (.frz o u)
theorem Rd.ok {P : Program} {w : World} {H : Hp} {h : Heap} {a : Addr} {u : HO} (r : Rd H a u) (x : HOk P w H h) : ObjOk P w H h a u := by
  rcases r with r | ⟨o, r⟩
  · exact x a u r
  · obtain ⟨_, q⟩ := x a _ r
    exact q
def Mut : Option HO → Prop
  | some (.lst _) => True
  | some (.dK _) => True
  | some (.dT _) => True
  | some (.set _ _) => True
  | some (.ins _ _ _) => True
  | some (.ext _) => True
  | _ => False
section
variable {P : Program} {w : World} {H : Hp} {h h' : Heap} {x e : Addr} {o' : HO}
theorem HOk.write (ok : HOk P w H h) (mu : Mut (H x)) (he : e = x ∨ H e = some (.own x)) (k : ∀ b u, b ≠ e → h.get? b = some u → h'.get? b = some u) (heo : ∃ u, h'.get? e = some u)
    (new : ObjOk P w (upd H x o') h' x o') : HOk P w (upd H x o') h' := fun b u q => by
  have nown : ∀ c y, H c = some (.own y) → c ≠ x := fun c y r z => by subst z; rw [r] at mu; exact mu
  have ntup : ∀ c xs, H c = some (.tup xs) → c ≠ x := fun c xs r z => by subst z; rw [r] at mu; exact mu
  by_cases hb : b = x
  · subst hb; rw [upd_same] at q; cases q; exact new
  · rw [upd_ne hb] at q
    by_cases hbe : b = e
    · have q' : H b = some (.own x) := by
        rcases he with z | z
        · exact absurd (hbe.trans z) hb
        · rw [hbe]; exact z
      rw [q] at q'; cases q'
      obtain ⟨v, hv⟩ := heo
      exact ⟨v, by rw [hbe]; exact hv⟩
    · refine (ok b u q).stay (fun c v hc r => k c v ?_ r) (fun c r => by rw [upd_ne (nown c b r)]; exact r) fun c xs r => by rw [upd_ne (ntup c xs r)]; exact r
      rcases hc with rfl | hc
      · exact hbe
      · rintro rfl
        rcases he with z | z
        · exact nown c b hc z
        · rw [hc] at z; cases z; exact hb rfl
end
structure Un (fs ex : List Addr) (H H' : Hp) (h h' : Heap) : Prop where
  keep : ∀ b o, h.get? b = some o → H b = none → b ∉ fs → b ∉ ex → h'.get? b = some o
  slot : ∀ b o, h.get? b = some o → H b = none → b ∈ fs → b ∉ ex → ∃ sl, h'.get? b = some { o with slots := sl }
  free : ∀ b o, h.get? b = some o → H b = none → b ∉ ex → H' b = none
  there : ∀ b o, h.get? b = some o → b ∉ ex → ∃ o', h'.get? b = some o'
  tups : ∀ b xs, H b = some (.tup xs) → H' b = some (.tup xs)
  frzs : ∀ b o u, H b = some (.frz o u) → H' b = some (.frz o u)
  tbls : ∀ b ps, H b = some (.tbl ps) → ∃ more, H' b = some (.tbl (ps ++ more))
section
variable {fs fs' ex ex' : List Addr} {H H1 H2 : Hp} {h h1 h2 h' : Heap} {a x e : Addr} {o : HO}
theorem Un.any (u : Un fs ex H H1 h h1) {b : Addr} {ob : Obj} (q : h.get? b = some ob) (n : H b = none) (hx : b ∉ ex) : ∃ sl, h1.get? b = some { ob with slots := sl } := by
  by_cases hb : b ∈ fs
  · exact u.slot b ob q n hb hx
  · exact ⟨ob.slots, u.keep b ob q n hb hx⟩
theorem Un.kept (k : ∀ b u, h.get? b = some u → h'.get? b = some u) : Un fs ex H H h h' :=
  ⟨fun b ob q _ _ _ => k b ob q, fun b ob q _ _ _ => ⟨ob.slots, k b ob q⟩, fun _ _ _ n _ => n, fun b ob q _ => ⟨ob, k b ob q⟩, fun _ _ q => q, fun _ _ _ q => q, fun _ ps q => ⟨#[], by rw [q]; simp⟩⟩
theorem Un.refl : Un fs ex H H h h := Un.kept fun _ _ q => q
theorem Un.laid (k : ∀ b u, h.get? b = some u → h'.get? b = some u) (hp : h.objs.size ≤ a) (hn : H a = none) : Un fs ex H (upd H a o) h h' where
  keep := fun b u q _ _ _ => k b u q
  slot := fun b u q _ _ _ => ⟨u.slots, k b u q⟩
  free := fun b u q n _ => by rw [upd_ne (Nat.ne_of_lt (Nat.lt_of_lt_of_le (Heap.lt_size q) hp))]; exact n
  there := fun b u q _ => ⟨u, k b u q⟩
  tups := fun b xs q => by rw [upd_ne (ne_of_none q hn)]; exact q
  frzs := fun b u xs q => by rw [upd_ne (ne_of_none q hn)]; exact q
  tbls := fun b ps q => ⟨#[], by rw [upd_ne (ne_of_none q hn), q]; simp⟩
theorem Un.write (mu : Mut (H x)) (he : e = x ∨ H e = some (.own x)) (k : ∀ b u, b ≠ e → h.get? b = some u → h'.get? b = some u) (heo : ∃ u, h'.get? e = some u) : Un fs ex H (upd H x o) h h' := by
  have hx : ∀ b, H b = none → b ≠ x := fun b n z => by subst z; rw [n] at mu; exact mu
  have hb : ∀ b, H b = none → b ≠ e := fun b n z => by
    subst z
    rcases he with r | r
    · exact hx b n r
    · rw [n] at r; cases r
  have hm : ∀ b u, H b = some u → ¬ Mut (some u) → b ≠ x := fun b u q nm z => by subst z; rw [q] at mu; exact nm mu
  refine ⟨fun b u q n _ _ => k b u (hb b n) q, fun b u q n _ _ => ⟨u.slots, k b u (hb b n) q⟩, fun b u q n _ => by rw [upd_ne (hx b n)]; exact n, fun b u q _ => ?_,
    fun b xs q => by rw [upd_ne (hm b _ q fun z => z)]; exact q, fun b u xs q => by rw [upd_ne (hm b _ q fun z => z)]; exact q, fun b ps q => ⟨#[], by rw [upd_ne (hm b _ q fun z => z), q]; simp⟩⟩
  by_cases hbe : b = e
  · subst hbe; exact heo
  · exact ⟨u, k b u hbe q⟩
end
def trk (h : Heap) (H : Hp) : List Addr := (List.range h.objs.size).filter fun a => (H a).isSome
def hidT (h : Heap) (H : Hp) : Heap := PySem.W.hideAll h (trk h H)
theorem hidT_size (h : Heap) (H : Hp) : (hidT h H).objs.size = h.objs.size := PySem.W.hideAll_size _ _
theorem hidT_get {h : Heap} {H : Hp} {b : Addr} {o : Obj} (e : h.get? b = some o) (n : H b = none) : (hidT h H).get? b = some o :=
  PySem.W.hideAll_get _ e fun hm => by
    have q : (H b).isSome = true := (List.mem_filter.mp hm).2
    rw [n] at q; simp at q
theorem of_hidT {h : Heap} {H : Hp} {b : Addr} {o : Obj} (e : (hidT h H).get? b = some o) : h.get? b = some o ∧ H b = none := by
  have e' : h.get? b = some o := PySem.W.of_hideAll (trk h H) e
  refine ⟨e', ?_⟩
  cases q : H b with
  | none => rfl
  | some x =>
    have hm : b ∈ trk h H := List.mem_filter.mpr ⟨List.mem_range.mpr (Heap.lt_size e'), by simp [q]⟩
    have z : (hidT h H).get? b = none := PySem.W.hideAll_none (trk h H) hm
    rw [z] at e; cases e
end L2
namespace L2
open PySem PySem.Spec PyProof.Rows
structure Mod (K : PySem.W.Frag) (mg : Str → Option Value) (base : Heap) : Prop where
  kin : K.In base
  glob : base.Ns mainGlobals mg
  blt : ∃ mb, base.Ns builtinsNs mb ∧ ∀ x : Str, x ≠ "__name__" → mb x = bootBuiltins x
  nolimit : base.NoLimit
structure Cx where
  prog : Program
  w : World
  K : PySem.W.Frag
  mg : Str → Option Value
  base : Heap
  A : Around
  N : List Str
  s₀ : Shared
  H₀ : Hp
  env : Env
  outer : List Env
  stack : List Env
  ex : List Addr
  fn : Str → Bool
  calm : Bool
  pn : List (Addr × Obj)
  xe : Value → Shared → Prop
def frs (l : List Env) : List Addr := l.filterMap (·.frame)
abbrev Cx.fs (X : Cx) : List Addr := frs X.outer
def Vis (sc : Scope) (x : Str) : Prop := sc.names.lookup x = some .local ∨ sc.names.lookup x = some .cell ∨ sc.names.lookup x = some .free
def Loc (sc : Scope) (x : Str) : Prop := sc.names.lookup x = some .local ∨ sc.names.lookup x = some .cell
def Look (env : Env) (h : Heap) (m : Str → Option Value) (x : Str) (u : Value) : Prop :=
  (env.kindOf x = some .local ∧ m x = some u) ∨ ((env.kindOf x = some .cell ∨ env.kindOf x = some .free) ∧ ∃ c, env.cells.lookup x = some c ∧ h.IsCell c (some u))
structure Cx.Ok (X : Cx) : Prop where
  mod : Mod X.K X.mg X.base
  kind : X.env.scope.kind = .function
  glob : X.env.globals = mainGlobals
  blt : X.env.builtins = builtinsNs
  above : X.s₀.heap.objs.size ≤ X.env.locals
  inj : ∀ x y c, X.env.cells.lookup x = some c → X.env.cells.lookup y = some c → x = y
  has : ∀ x, (X.env.kindOf x = some .cell ∨ X.env.kindOf x = some .free) → ∃ c, X.env.cells.lookup x = some c
  cab : ∀ x c, X.fn x = true → X.env.cells.lookup x = some c → X.s₀.heap.objs.size ≤ c
  hd : X.calm = true → X.A.handled = none
  frames : X.A.frames = some X.stack
  stk : X.stack = X.outer ∨ (X.stack = X.env :: X.outer ∧ X.env.frame = some X.env.locals)
  exf : ∀ b ∈ X.ex, b ≠ X.env.locals ∧ ∀ x c, X.env.cells.lookup x = some c → c ≠ b
  bs : ∀ b o, X.base.get? b = some o → X.s₀.heap.get? b = some o ∧ X.H₀ b = none
  bsz : X.base.objs.size ≤ X.s₀.heap.objs.size
  noex : ∀ b o, X.base.get? b = some o → b ∉ X.ex
  exfs : ∀ b ∈ X.ex, b ∉ X.fs
  funs : X.s₀.heap.FunFrames X.base X.outer
  frf : ∀ b ∈ X.fs, X.H₀ b = none
structure Inv (X : Cx) (pins : List (Addr × Obj)) (σ : List (Option V)) (H : Hp) (s : Shared) : Prop where
  ok : X.Ok
  os : s.os = X.s₀.os
  bare : AllBare s.gens
  base : Un X.fs X.ex X.H₀ H X.s₀.heap s.heap
  loc : ∃ m, s.heap.Ns X.env.locals m ∧ ∀ (i : Nat) (x : Str) (v : V), X.N[i]? = some x → σ[i]? = some (some v) → Vis X.env.scope x → ∃ u, RelV v u ∧ Look X.env s.heap m x u
  cell : ∀ x c, X.env.cells.lookup x = some c → ∃ v, s.heap.IsCell c v
  free : H X.env.locals = none
  freeC : ∀ x c, X.env.cells.lookup x = some c → H c = none
  pin : ∀ p ∈ X.pn ++ pins, s.heap.get? p.1 = some p.2 ∧ H p.1 = none ∧ p.1 ≠ X.env.locals ∧ p.1 ∉ X.fs ∧ ∀ v, p.2.data ≠ .cell v
  hok : HOk X.prog X.w H s.heap
  len : σ.length = X.N.length
section
variable {X : Cx} {pins : List (Addr × Obj)} {σ : List (Option V)} {H H' : Hp} {s : Shared} {h' : Heap}
theorem Cx.Ok.nofr (ok : X.Ok) {b : Addr} {o : Obj} (e : X.base.get? b = some o) : b ∉ X.fs := fun hb => by
  have := (ok.funs.mem hb).1
  rw [e] at this; cases this
theorem Inv.bs (I : Inv X pins σ H s) : ∀ b o, X.base.get? b = some o → s.heap.get? b = some o ∧ H b = none := fun b o e =>
  ⟨I.base.keep b o (I.ok.bs b o e).1 (I.ok.bs b o e).2 (I.ok.nofr e) (I.ok.noex b o e), I.base.free b o (I.ok.bs b o e).1 (I.ok.bs b o e).2 (I.ok.noex b o e)⟩
theorem Inv.bk (I : Inv X pins σ H s) : ∀ b o, X.base.get? b = some o → s.heap.get? b = some o := fun b o e => (I.bs b o e).1
theorem Inv.mod (I : Inv X pins σ H s) : Mod X.K X.mg X.base := I.ok.mod
theorem Inv.kIn (I : Inv X pins σ H s) : X.K.In s.heap := I.ok.mod.kin.keeps I.bk
theorem Inv.lt (I : Inv X pins σ H s) : X.env.locals < s.heap.objs.size := let ⟨_, hn, _⟩ := I.loc; hn.lt
theorem Inv.sz (I : Inv X pins σ H s) : X.s₀.heap.objs.size ≤ s.heap.objs.size := Nat.le_trans I.ok.above (Nat.le_of_lt I.lt)
theorem Inv.nofs (I : Inv X pins σ H s) {a : Addr} (h : s.heap.objs.size ≤ a) : a ∉ X.fs := fun hb => by
  obtain ⟨_, o, ho, _⟩ := I.ok.funs.mem hb
  exact absurd (Nat.lt_of_lt_of_le (Heap.lt_size ho) (Nat.le_trans I.sz h)) (Nat.lt_irrefl _)
theorem Inv.cne (I : Inv X pins σ H s) : ∀ x c, X.env.cells.lookup x = some c → c ≠ X.env.locals := fun x c e z => by
  obtain ⟨v, o, ho, hd⟩ := I.cell x c e
  obtain ⟨m, ⟨o', es, ep, ho', hd', _⟩, _⟩ := I.loc
  rw [z, ho'] at ho; cases ho; rw [hd'] at hd; cases hd
theorem Inv.funs (I : Inv X pins σ H s) : s.heap.FunFrames X.base X.outer := by
  have all : ∀ (l : List Env), (∀ b ∈ frs l, b ∈ X.fs) → X.s₀.heap.FunFrames X.base l → s.heap.FunFrames X.base l := by
    intro l
    induction l with
    | nil => intro _ _; trivial
    | cons env r ih =>
      intro hs hl
      obtain ⟨hk, ⟨L, o, hf, hn, ho, hd⟩, hr⟩ := hl
      have hL : L ∈ X.fs := hs L (by unfold frs; rw [List.filterMap_cons, hf]; exact List.mem_cons_self)
      obtain ⟨sl, e⟩ := I.base.slot L o ho (I.ok.frf L hL) hL fun z => I.ok.exfs L z hL
      exact ⟨hk, ⟨L, _, hf, hn, e, hd⟩, ih (fun b hb => hs b (by unfold frs; rw [List.filterMap_cons, hf]; exact List.mem_cons_of_mem _ hb)) hr⟩
  exact all X.outer (fun _ hb => hb) I.ok.funs
theorem Inv.stack (I : Inv X pins σ H s) : s.heap.FunFrames X.base X.stack := by
  rcases I.ok.stk with e | ⟨e, hf⟩
  · rw [e]; exact I.funs
  · rw [e]
    obtain ⟨m, hn, _⟩ := I.loc
    refine .cons (by rw [I.ok.kind]; decide) hf hn ?_ I.funs
    exact Heap.get?_none_of_le (Nat.le_trans I.ok.bsz I.ok.above)
theorem Inv.stkSub (I : Inv X pins σ H s) : ∀ b ∈ frs X.stack, b ∈ X.env.locals :: X.fs := fun b hb => by
  rcases I.ok.stk with e | ⟨e, hf⟩
  · rw [e] at hb; exact List.mem_cons_of_mem _ hb
  · rw [e] at hb
    unfold frs at hb
    rw [List.filterMap_cons, hf] at hb
    exact hb
theorem Inv.stkFree (I : Inv X pins σ H s) : ∀ b ∈ frs X.stack, H b = none := fun b hb => by
  rcases List.mem_cons.mp (I.stkSub b hb) with e | hb
  · rw [e]; exact I.free
  · obtain ⟨_, o, ho, _⟩ := I.ok.funs.mem hb
    exact I.base.free b o ho (I.ok.frf b hb) fun z => I.ok.exfs b z hb
theorem Inv.step {g' : Array GenState} {t' : Nat} {d' : Drawn} {ch : List Addr} (I : Inv X pins σ H s)
    (hch : ∀ b ∈ ch, (b ∈ X.ex ∨ X.s₀.heap.objs.size ≤ b) ∧ b ≠ X.env.locals ∧ (∀ x c, X.env.cells.lookup x = some c → c ≠ b) ∧ ∀ p ∈ X.pn ++ pins, p.1 ≠ b)
    (keep : ∀ b o, b ≠ X.env.locals → b ∉ X.fs → b ∉ ch → s.heap.get? b = some o → H b = none → h'.get? b = some o)
    (slot : ∀ b o, b ≠ X.env.locals → b ∈ X.fs → b ∉ ch → s.heap.get? b = some o → H b = none → ∃ sl, h'.get? b = some { o with slots := sl }) (free : ∀ b o, b ∉ ch → s.heap.get? b = some o → H b = none → H' b = none)
    (there : ∀ b o, b ∉ ch → s.heap.get? b = some o → ∃ o', h'.get? b = some o')
    (tups : ∀ b xs, H b = some (.tup xs) → H' b = some (.tup xs)) (frzs : ∀ b o u, H b = some (.frz o u) → H' b = some (.frz o u)) (tbls : ∀ b ps, H b = some (.tbl ps) → ∃ more, H' b = some (.tbl (ps ++ more)))
    (ns : ∀ m, s.heap.Ns X.env.locals m → h'.Ns X.env.locals m) (hok : HOk X.prog X.w H' h') (hg : AllBare g') :
    Inv X pins σ H' { s with heap := h', gens := g', drawn := d', toks := t' } := by
  have neL : ∀ b o, X.s₀.heap.get? b = some o → b ≠ X.env.locals := fun b o e => Nat.ne_of_lt (Nat.lt_of_lt_of_le (Heap.lt_size e) I.ok.above)
  have neC : ∀ b o, X.s₀.heap.get? b = some o → b ∉ X.ex → b ∉ ch := fun b o e hx hb => by
    rcases (hch b hb).1 with z | z
    · exact hx z
    · exact absurd (Nat.lt_of_lt_of_le (Heap.lt_size e) z) (Nat.lt_irrefl _)
  have cellK : ∀ x c, X.env.cells.lookup x = some c → ∀ v, s.heap.IsCell c v → h'.IsCell c v := fun x c e v ⟨o, ho, hd⟩ => by
    have nch : c ∉ ch := fun z => (hch c z).2.2.1 x c e rfl
    by_cases hc : c ∈ X.fs
    · obtain ⟨sl, q⟩ := slot c o (I.cne x c e) hc nch ho (I.freeC x c e)
      exact ⟨_, q, hd⟩
    · exact ⟨o, keep c o (I.cne x c e) hc nch ho (I.freeC x c e), hd⟩
  refine ⟨I.ok, I.os, hg, ⟨fun b o e n hb hx => ?_, fun b o e n hb hx => ?_, fun b o e n hx => ?_, fun b o e hx => ?_, fun b xs e => tups b xs (I.base.tups b xs e), fun b o xs e => frzs b o xs (I.base.frzs b o xs e), fun b ps e => ?_⟩, ?_, fun x c e => ?_, ?_, fun x c e => ?_, fun p hp => ?_, hok, I.len⟩
  · exact keep b o (neL b o e) hb (neC b o e hx) (I.base.keep b o e n hb hx) (I.base.free b o e n hx)
  · obtain ⟨sl, e1⟩ := I.base.slot b o e n hb hx
    obtain ⟨sl', e2⟩ := slot b _ (neL b o e) hb (neC b o e hx) e1 (I.base.free b o e n hx)
    exact ⟨sl', e2⟩
  · obtain ⟨o', e1⟩ := I.base.there b o e hx
    exact free b o' (neC b o e hx) e1 (I.base.free b o e n hx)
  · obtain ⟨o', e1⟩ := I.base.there b o e hx
    exact there b o' (neC b o e hx) e1
  · obtain ⟨m1, e1⟩ := I.base.tbls b ps e
    obtain ⟨m2, e2⟩ := tbls b _ e1
    exact ⟨m1 ++ m2, by rw [e2, Array.append_assoc]⟩
  · obtain ⟨m, hn, hl⟩ := I.loc
    refine ⟨m, ns m hn, fun i x v e1 e2 e3 => ?_⟩
    obtain ⟨u, r, l⟩ := hl i x v e1 e2 e3
    refine ⟨u, r, ?_⟩
    rcases l with l | ⟨k, c, e, z⟩
    · exact .inl l
    · exact .inr ⟨k, c, e, cellK x c e _ z⟩
  · obtain ⟨v, z⟩ := I.cell x c e
    exact ⟨v, cellK x c e v z⟩
  · obtain ⟨m, ⟨o, _, _, ho, _⟩, _⟩ := I.loc
    exact free _ o (fun z => (hch _ z).2.1 rfl) ho I.free
  · obtain ⟨v, o, ho, hd⟩ := I.cell x c e
    exact free c o (fun z => (hch c z).2.2.1 x c e rfl) ho (I.freeC x c e)
  · obtain ⟨e, n, ne, nf, d⟩ := I.pin p hp
    have nch : p.1 ∉ ch := fun z => (hch p.1 z).2.2.2 p hp rfl
    exact ⟨keep p.1 p.2 ne nf nch e n, free p.1 p.2 nch e n, ne, nf, d⟩
theorem Inv.un {t' : Nat} (I : Inv X pins σ H s) (u : Un X.fs [] H H' s.heap h') (hok : HOk X.prog X.w H' h') : Inv X pins σ H' { s with heap := h', toks := t' } := by
  obtain ⟨m, ⟨o, es, ep, ho, r⟩, _⟩ := id I.loc
  obtain ⟨sl, hL⟩ := u.any ho I.free (by simp)
  exact I.step (g' := s.gens) (d' := s.drawn) (ch := []) (fun _ z => nomatch z) (fun b o _ hb _ e n => u.keep b o e n hb (by simp)) (fun b o _ hb _ e n => u.slot b o e n hb (by simp)) (fun b o _ e n => u.free b o e n (by simp)) (fun b o _ e => u.there b o e (by simp)) u.tups u.frzs u.tbls (fun m' hm => by
    obtain ⟨o', es', ep', ho', r'⟩ := hm
    rw [ho] at ho'; cases ho'
    exact ⟨_, es', ep', hL, r'⟩) hok I.bare
theorem Inv.call {g' : Array GenState} {t' : Nat} {d' : Drawn} {ch : List Addr} (I : Inv X pins σ H s) (u : Un (frs X.stack) ch H H' s.heap h') (hok : HOk X.prog X.w H' h') (hg : AllBare g')
    (hch : ∀ b ∈ ch, (b ∈ X.ex ∨ X.s₀.heap.objs.size ≤ b) ∧ b ≠ X.env.locals ∧ (∀ x c, X.env.cells.lookup x = some c → c ≠ b) ∧ ∀ p ∈ X.pn ++ pins, p.1 ≠ b) :
    Inv X pins σ H' { s with heap := h', gens := g', drawn := d', toks := t' } := by
  obtain ⟨m, ⟨o, es, ep, ho, r⟩, _⟩ := id I.loc
  obtain ⟨sl, hL⟩ := u.any ho I.free fun z => (hch _ z).2.1 rfl
  exact I.step (ch := ch) hch (fun b o hL hb hc e n => u.keep b o e n (fun z => (List.mem_cons.mp (I.stkSub b z)).elim hL hb) hc) (fun b o _ _ hc e n => u.any e n hc) (fun b o hc e n => u.free b o e n hc) (fun b o hc e => u.there b o e hc) u.tups u.frzs u.tbls (fun m' hm => by
    obtain ⟨o', es', ep', ho', r'⟩ := hm
    rw [ho] at ho'; cases ho'
    exact ⟨_, es', ep', hL, r'⟩) hok hg
theorem Inv.turned {t' : Nat} {it : Addr} (I : Inv X pins σ H s) (k : ∀ b o, b ≠ it → s.heap.get? b = some o → h'.get? b = some o) (hn : H it = none) (hL : it ≠ X.env.locals)
    (h1 : it ∈ X.ex ∨ X.s₀.heap.objs.size ≤ it) (h2 : ∀ x c, X.env.cells.lookup x = some c → c ≠ it) (h3 : ∀ p ∈ X.pn ++ pins, p.1 ≠ it) : Inv X pins σ H { s with heap := h', toks := t' } := by
  have nit : ∀ b u, H b = some u → b ≠ it := fun b u e z => by rw [z, hn] at e; cases e
  refine I.step (g' := s.gens) (d' := s.drawn) (ch := [it]) (fun b hb => ?_) (fun b o _ _ hc e _ => k b o (fun z => hc (by simp [z])) e) (fun b o _ _ hc e _ => ⟨o.slots, k b o (fun z => hc (by simp [z])) e⟩) (fun _ _ _ _ n => n)
    (fun b o hc e => ⟨o, k b o (fun z => hc (by simp [z])) e⟩) (fun _ _ e => e) (fun _ _ _ e => e) (fun b ps e => ⟨#[], by rw [e]; simp⟩) (fun m hm => ?_) (fun b u e => ?_) I.bare
  · have e : b = it := by simpa using hb
    subst e
    exact ⟨h1, hL, h2, h3⟩
  · obtain ⟨o, es, ep, ho, r⟩ := hm
    exact ⟨o, es, ep, k _ o (Ne.symm hL) ho, r⟩
  · refine (I.hok b u e).stay (fun c v hc q => k c v ?_ q) (fun _ q => q) fun _ _ q => q
    rcases hc with z | z
    · rw [z]; exact nit b u e
    · exact nit c _ z
theorem Inv.tok (I : Inv X pins σ H s) (t : Nat) : Inv X pins σ H { s with toks := t } := I.un (h' := s.heap) (t' := t) Un.refl I.hok
theorem Inv.kept {t' : Nat} (I : Inv X pins σ H s) (k : ∀ b u, s.heap.get? b = some u → h'.get? b = some u) : Inv X pins σ H { s with heap := h', toks := t' } := I.un (Un.kept k) (I.hok.kept k)
theorem Inv.laid {a : Addr} {o : HO} {t' : Nat} (I : Inv X pins σ H s) (k : ∀ b u, s.heap.get? b = some u → h'.get? b = some u) (hp : s.heap.objs.size ≤ a) (new : ObjOk X.prog X.w (upd H a o) h' a o) :
    Inv X pins σ (upd H a o) { s with heap := h', toks := t' } := I.un (Un.laid k hp (I.hok.fresh hp)) (I.hok.laid k hp new)
theorem Inv.write {x e : Addr} {o : HO} {t' : Nat} (I : Inv X pins σ H s) (mu : Mut (H x)) (he : e = x ∨ H e = some (.own x)) (k : ∀ b u, b ≠ e → s.heap.get? b = some u → h'.get? b = some u) (heo : ∃ u, h'.get? e = some u)
    (new : ObjOk X.prog X.w (upd H x o) h' x o) : Inv X pins σ (upd H x o) { s with heap := h', toks := t' } := I.un (Un.write mu he k heo) (I.hok.write mu he k heo new)
theorem Inv.pins_of {pins' : List (Addr × Obj)} (I : Inv X pins σ H s) (h : ∀ p ∈ pins', s.heap.get? p.1 = some p.2 ∧ H p.1 = none ∧ p.1 ≠ X.env.locals ∧ p.1 ∉ X.fs ∧ ∀ v, p.2.data ≠ .cell v) : Inv X pins' σ H s :=
  ⟨I.ok, I.os, I.bare, I.base, I.loc, I.cell, I.free, I.freeC, fun p hp => (List.mem_append.mp hp).elim (fun z => I.pin p (List.mem_append_left _ z)) (h p), I.hok, I.len⟩
theorem nodup_ix {N : List Str} (hN : N.Nodup) {i j : Nat} {x : Str} (a : N[i]? = some x) (b : N[j]? = some x) : i = j := by
  obtain ⟨h1, e1⟩ := List.getElem?_eq_some_iff.mp a
  obtain ⟨h2, e2⟩ := List.getElem?_eq_some_iff.mp b
  exact (List.getElem_inj hN).mp (e1.trans e2.symm)
theorem store_ok2 {M : Model} {A : Around} {E : Value → Shared → Prop} {i : Nat} {x : Str} {v : V} {u : Value} {Q : Unit → Shared → Prop} (I : Inv X pins σ H s) (hN : X.N.Nodup) (hi : X.N[i]? = some x) (hx : Loc X.env.scope x) (r : RelV v u)
    (h : ∀ s', Inv X pins (σ.set i (some v)) H s' → (∃ a, Heap.SameBut a s.heap s'.heap ∧ (a = X.env.locals ∨ X.env.cells.lookup x = some a)) → Q () s') (hf : X.fn x = true ∨ X.env.scope.names.lookup x = some .local := by first | exact .inl rfl | exact .inr rfl | assumption) : wpAny M A (storeName X.env x u) Q E s := by
  obtain ⟨m, hn, hl⟩ := id I.loc
  have hcls : (X.env.scope.kind == .class || (X.env.scope.kind == .module && X.env.locals != X.env.globals)) = false := by rw [I.ok.kind]; rfl
  have hiσ : i < σ.length := by rw [I.len]; exact (List.getElem?_eq_some_iff.mp hi).1
  have cne := I.cne
  have tracked : ∀ {a : Addr} {h' : Heap}, (∃ o, s.heap.get? a = some o ∧ H a = none) → Heap.SameBut a s.heap h' → HOk X.prog X.w H h' := fun {a h'} ha hs b ob e => by
    obtain ⟨_, _, hfree⟩ := ha
    refine (I.hok b ob e).stay (fun c w' hc q => (hs.2 c ?_).trans q) (fun _ q => q) fun _ _ q => q
    rintro rfl
    rcases hc with rfl | hc
    · rw [hfree] at e; cases e
    · rw [hfree] at hc; cases hc
  rcases hx with hk | hk
  · refine wpAny_storeName_local hk hn (fun h' hn' hs => ?_) hcls
    obtain ⟨oL, _, _, hoL, _⟩ := id hn
    refine h _ ⟨I.ok, I.os, I.bare, ⟨fun b o e n hb hx => ?_, fun b o e n hb hx => ?_, I.base.free, fun b o e hx => ?_, I.base.tups, I.base.frzs, I.base.tbls⟩, ⟨_, hn', fun j y v' e1 e2 e3 => ?_⟩, fun y c e => ?_, I.free, I.freeC, fun p hp => ?_, tracked ⟨oL, hoL, I.free⟩ hs, by simpa using I.len⟩ ⟨_, hs, .inl rfl⟩
    · exact (hs.2 b (Nat.ne_of_lt (Nat.lt_of_lt_of_le (Heap.lt_size e) I.ok.above))).trans (I.base.keep b o e n hb hx)
    · obtain ⟨sl, e1⟩ := I.base.slot b o e n hb hx
      exact ⟨sl, (hs.2 b (Nat.ne_of_lt (Nat.lt_of_lt_of_le (Heap.lt_size e) I.ok.above))).trans e1⟩
    · obtain ⟨o', e1⟩ := I.base.there b o e hx
      exact ⟨o', (hs.2 b (Nat.ne_of_lt (Nat.lt_of_lt_of_le (Heap.lt_size e) I.ok.above))).trans e1⟩
    · by_cases hj : j = i
      · subst hj
        rw [hi] at e1; cases e1
        rw [List.getElem?_set_self hiσ] at e2
        cases e2
        exact ⟨u, r, .inl ⟨hk, by simp⟩⟩
      · rw [List.getElem?_set_ne (Ne.symm hj)] at e2
        obtain ⟨u', r', q⟩ := hl j y v' e1 e2 e3
        refine ⟨u', r', ?_⟩
        rcases q with ⟨k, e⟩ | ⟨k, c, e, z⟩
        · refine .inl ⟨k, ?_⟩
          have : y ≠ x := fun e => hj (nodup_ix hN e1 (e ▸ hi))
          simp [this, e]
        · exact .inr ⟨k, c, e, z.sameBut hs (cne y c e)⟩
    · obtain ⟨w', z⟩ := I.cell y c e
      exact ⟨w', z.sameBut hs (cne y c e)⟩
    · obtain ⟨e, n, ne, nf, d⟩ := I.pin p hp
      exact ⟨(hs.2 p.1 ne).trans e, n, ne, nf, d⟩
  · have hfn : X.fn x = true := by
      rcases hf with z | z
      · exact z
      · rw [z] at hk; cases hk
    obtain ⟨c, hc⟩ := I.ok.has x (.inl hk)
    obtain ⟨w', z⟩ := I.cell x c hc
    refine wpAny_storeName_cell I.ok.kind hk hc z (fun h' hc' hs => ?_)
    obtain ⟨oc, hoc, hocd⟩ := id z
    refine h { s with heap := h' } ⟨I.ok, I.os, I.bare, ⟨fun b o e n hb hx => ?_, fun b o e n hb hx => ?_, I.base.free, fun b o e hx => ?_, I.base.tups, I.base.frzs, I.base.tbls⟩, ⟨m, hn.sameBut hs (Ne.symm (cne x c hc)), fun j y v' e1 e2 e3 => ?_⟩, fun y c' e => ?_, I.free, I.freeC, fun p hp => ?_, tracked ⟨oc, hoc, I.freeC x c hc⟩ hs, by simpa using I.len⟩ ⟨c, hs, .inr hc⟩
    · exact (hs.2 b (Nat.ne_of_lt (Nat.lt_of_lt_of_le (Heap.lt_size e) (I.ok.cab x c hfn hc)))).trans (I.base.keep b o e n hb hx)
    · obtain ⟨sl, e1⟩ := I.base.slot b o e n hb hx
      exact ⟨sl, (hs.2 b (Nat.ne_of_lt (Nat.lt_of_lt_of_le (Heap.lt_size e) (I.ok.cab x c hfn hc)))).trans e1⟩
    · obtain ⟨o', e1⟩ := I.base.there b o e hx
      exact ⟨o', (hs.2 b (Nat.ne_of_lt (Nat.lt_of_lt_of_le (Heap.lt_size e) (I.ok.cab x c hfn hc)))).trans e1⟩
    · by_cases hj : j = i
      · subst hj
        rw [hi] at e1; cases e1
        rw [List.getElem?_set_self hiσ] at e2
        cases e2
        exact ⟨u, r, .inr ⟨.inl hk, c, hc, hc'⟩⟩
      · rw [List.getElem?_set_ne (Ne.symm hj)] at e2
        obtain ⟨u', r', q⟩ := hl j y v' e1 e2 e3
        refine ⟨u', r', ?_⟩
        rcases q with q | ⟨k, c', e, z'⟩
        · exact .inl q
        · refine .inr ⟨k, c', e, z'.sameBut hs ?_⟩
          rintro rfl
          exact hj (nodup_ix hN e1 (I.ok.inj _ _ _ e hc ▸ hi))
    · by_cases hcc : c' = c
      · subst hcc; exact ⟨_, hc'⟩
      · obtain ⟨w2, z2⟩ := I.cell y c' e
        exact ⟨w2, z2.sameBut hs hcc⟩
    · obtain ⟨e, n, ne, nf, d⟩ := I.pin p hp
      refine ⟨(hs.2 p.1 ?_).trans e, n, ne, nf, d⟩
      intro q
      rw [q, hoc] at e
      have q' : oc = p.2 := Option.some.inj e
      exact d w' (by rw [← q']; exact hocd)
theorem store_ok {M : Model} {A : Around} {E : Value → Shared → Prop} {i : Nat} {x : Str} {v : V} {u : Value} {Q : Unit → Shared → Prop} (I : Inv X pins σ H s) (hN : X.N.Nodup) (hi : X.N[i]? = some x) (hx : Loc X.env.scope x) (r : RelV v u)
    (h : ∀ s', Inv X pins (σ.set i (some v)) H s' → Q () s') (hf : X.fn x = true ∨ X.env.scope.names.lookup x = some .local := by first | exact .inl rfl | exact .inr rfl | assumption) : wpAny M A (storeName X.env x u) Q E s :=
  store_ok2 I hN hi hx r (fun s' I' _ => h s' I') hf
theorem Inv.call' {s' : Shared} {ch : List Addr} (I : Inv X pins σ H s) (ho : s'.os = s.os) (u : Un (frs X.stack) ch H H' s.heap s'.heap) (hok : HOk X.prog X.w H' s'.heap) (hg : AllBare s'.gens)
    (hch : ∀ b ∈ ch, (b ∈ X.ex ∨ X.s₀.heap.objs.size ≤ b) ∧ b ≠ X.env.locals ∧ (∀ x c, X.env.cells.lookup x = some c → c ≠ b) ∧ ∀ p ∈ X.pn ++ pins, p.1 ≠ b) : Inv X pins σ H' s' := by
  obtain ⟨h', g', d', t', o'⟩ := s'
  have e : o' = s.os := ho
  subst e
  exact I.call (g' := g') (t' := t') (d' := d') u hok hg hch
end
abbrev XK := Value → Option Addr → Hp → Prop
abbrev St := List (Option V)
abbrev VK := V → Hp → Prop
abbrev TE := St → Hp → VK → Prop
abbrev TT := St → Hp → (Bool → Hp → Prop) → Prop
abbrev TA := St → Hp → (List V → Hp → Prop) → Prop
structure Ends where
  nx : St → Hp → Prop
  rt : VK
  bk : St → Hp → Prop := fun _ _ => False
  ct : St → Hp → Prop := fun _ _ => False
abbrev TS := Ends → St → Hp → Prop
def EP (X : Cx) (pins : List (Addr × Obj)) (σ : St) (Q : VK) (u : Value) (s' : Shared) : Prop := ∃ v H', Inv X pins σ H' s' ∧ RelV v u ∧ Q v H'
def TP (X : Cx) (pins : List (Addr × Obj)) (σ : St) (Q : Bool → Hp → Prop) (b : Bool) (s' : Shared) : Prop := ∃ H', Inv X pins σ H' s' ∧ Q b H'
def AP (X : Cx) (pins : List (Addr × Obj)) (σ : St) (Q : List V → Hp → Prop) (us : List Value) (s' : Shared) : Prop := ∃ vs H', Inv X pins σ H' s' ∧ Vals vs us ∧ Q vs H'
def SP (X : Cx) (pins : List (Addr × Obj)) (D : Ends) (f : Flow) (s' : Shared) : Prop :=
  match f with
  | .next => ∃ σ' H', Inv X pins σ' H' s' ∧ D.nx σ' H'
  | .brk => ∃ σ' H', Inv X pins σ' H' s' ∧ D.bk σ' H'
  | .cont => ∃ σ' H', Inv X pins σ' H' s' ∧ D.ct σ' H'
  | .ret u => ∃ v σ' H', Inv X pins σ' H' s' ∧ RelV v u ∧ D.rt v H'
def PE (X : Cx) (e : Expr) (t : TE) : Prop :=
  ∀ (pins : List (Addr × Obj)) (s : Shared) (σ : St) (H : Hp) (Q : VK), Inv X pins σ H s → t σ H Q → wpAny (model X.prog X.w) X.A (eval e X.env) (EP X pins σ Q) X.xe s
def PT (X : Cx) (e : Expr) (t : TT) : Prop :=
  ∀ (pins : List (Addr × Obj)) (s : Shared) (σ : St) (H : Hp) (Q : Bool → Hp → Prop), Inv X pins σ H s → t σ H Q → wpAny (model X.prog X.w) X.A (isTrue e X.env (eval e X.env)) (TP X pins σ Q) X.xe s
def PW (X : Cx) (e : Expr) (t : TT) : Prop :=
  ∀ (whole : Sem Value) (pins : List (Addr × Obj)) (s : Shared) (σ : St) (H : Hp) (Q : Bool → Hp → Prop), Inv X pins σ H s → t σ H Q → wpAny (model X.prog X.w) X.A (isTrue e X.env whole) (TP X pins σ Q) X.xe s
theorem PW.pt {X : Cx} {e : Expr} {t : TT} (h : PW X e t) : PT X e t := h _
def PA (X : Cx) (es : List Expr) (t : TA) : Prop :=
  ∀ (pos : Pos) (pins : List (Addr × Obj)) (s : Shared) (σ : St) (H : Hp) (Q : List V → Hp → Prop), Inv X pins σ H s → t σ H Q → wpAny (model X.prog X.w) X.A (spliced (backTo pos (starEach es X.env))) (AP X pins σ Q) X.xe s
def PS (X : Cx) (st : Stmt) (t : TS) : Prop :=
  ∀ (pins : List (Addr × Obj)) (s : Shared) (σ : St) (H : Hp) (D : Ends), Inv X pins σ H s → t D σ H → wpAny (model X.prog X.w) X.A (exec st X.env) (SP X pins D) X.xe s
def PSs (X : Cx) (st : List Stmt) (t : TS) : Prop :=
  ∀ (pins : List (Addr × Obj)) (s : Shared) (σ : St) (H : Hp) (D : Ends), Inv X pins σ H s → t D σ H → wpAny (model X.prog X.w) X.A (execs st X.env) (SP X pins D) X.xe s
theorem thn {α : Type} {t : Sem α} {Q Q' : α → Shared → Prop} {M : Model} {A : Around} {E : Value → Shared → Prop} {s : Shared} (h : wpAny M A t Q E s) (hQ : ∀ a s, Q a s → Q' a s) : wpAny M A t Q' E s := wpAny_mono h hQ fun _ _ x => x
end L2
namespace L2
open PySem PySem.Spec PyProof.Rows
section
variable {X : Cx}
theorem bin {a b : Expr} {ta tb : TE} (ha : PE X a ta) (hb : PE X b tb) {pins : List (Addr × Obj)} {s : Shared} {σ : St} {H : Hp} {R : V → V → Hp → Prop} (I : Inv X pins σ H s) (h : ta σ H fun x H1 => tb σ H1 fun y H2 => R x y H2)
    {α : Type} {Q : α → Shared → Prop} {f : Value → Value → Sem α}
    (hf : ∀ v u s2 x y H2, Inv X pins σ H2 s2 → RelV x v → RelV y u → R x y H2 → wpAny (model X.prog X.w) X.A (f v u) Q X.xe s2) :
    wpAny (model X.prog X.w) X.A (eval a X.env) (fun v s₁ => wpAny (model X.prog X.w) X.A (eval b X.env) (fun u s₂ => wpAny (model X.prog X.w) X.A (f v u) Q X.xe s₂) X.xe s₁) X.xe s := by
  refine thn (ha pins s σ H _ I h) fun v s1 ⟨x, H1, I1, r1, q1⟩ => ?_
  refine thn (hb pins s1 σ H1 _ I1 q1) fun u s2 ⟨y, H2, I2, r2, q2⟩ => ?_
  exact hf v u s2 x y H2 I2 r1 r2 q2
def tVar (i : Nat) : TE := fun σ H Q => ∃ v, σ[i]? = some (some v) ∧ Q v H
def tC (v : V) : TE := fun _ H Q => Q v H
theorem pe_var {i : Nat} {x : Str} {pos : Pos} (hN : X.N[i]? = some x) (hv : Vis X.env.scope x) (hd : (x == ("__debug__" : Str)) = false := by decide) (hcd : (x == ("__classdict__" : Str)) = false := by decide) : PE X (.Name x pos) (tVar i) := by
  intro pins s σ H Q I h
  obtain ⟨v, e, h⟩ := h
  obtain ⟨m, hn, hl⟩ := I.loc
  obtain ⟨u, r, l⟩ := hl i x v hN e hv
  have fin : EP X pins σ Q u s := ⟨v, H, I, r, h⟩
  rcases l with ⟨hk, hm⟩ | ⟨hk, c, hc, hcell⟩
  · exact wpAny_Name (wpAny_loadName_local I.ok.kind hk hn hm fin) hd
  · rcases hk with hk | hk
    · exact wpAny_Name (wpAny_loadName_cell I.ok.kind hk hc hcell fin) hd
    · exact wpAny_Name (wpAny_loadName_free I.ok.kind hk hc hcell fin hcd) hd
theorem pe_int {i j pos} : PE X (.Constant (.int i) j pos) (tC (.int i)) := fun _ _ _ H _ I h => wpAny_Constant_int ⟨.int i, H, I.tok _, ⟨_, rfl⟩, h⟩
theorem pe_bl {b j pos} : PE X (.Constant (.bool b) j pos) (tC (.bl b)) := fun _ _ _ H _ I h => Constant_bool ⟨.bl b, H, I, rfl, h⟩
def Gl (X : Cx) (x : Str) : Prop := X.env.kindOf x = some .globalImplicit
theorem ld_glob {E : Value → Shared → Prop} {pins : List (Addr × Obj)} {s : Shared} {σ : St} {H : Hp} {x : Str} {u : Value} {pos : Pos} {Q : Value → Shared → Prop} (I : Inv X pins σ H s) (hg : Gl X x) (hm : X.mg x = some u) (h : Q u s)
    (hd : (x == ("__debug__" : Str)) = false := by decide) : wpAny (model X.prog X.w) X.A (eval (.Name x pos) X.env) Q E s :=
  Calls.Name_function_global I.ok.kind hg (Calls.loadGlobal_global (by rw [I.ok.glob]; exact I.mod.glob.keeps I.bk) hm h) hd
theorem ld_blt {E : Value → Shared → Prop} {pins : List (Addr × Obj)} {s : Shared} {σ : St} {H : Hp} {x : Str} {u : Value} {pos : Pos} {Q : Value → Shared → Prop} (I : Inv X pins σ H s) (hg : Gl X x) (hm : X.mg x = none) (hv : bootBuiltins x = some u) (h : Q u s)
    (hn : x ≠ "__name__" := by decide) (hd : (x == ("__debug__" : Str)) = false := by decide) : wpAny (model X.prog X.w) X.A (eval (.Name x pos) X.env) Q E s := by
  obtain ⟨mb, h1, h2⟩ := I.mod.blt
  exact Calls.Name_function_global I.ok.kind hg (Calls.loadGlobal_builtin (by rw [I.ok.glob]; exact I.mod.glob.keeps I.bk) hm (by rw [I.ok.blt]; exact h1.keeps I.bk) ((h2 x hn).trans hv) h) hd
theorem pe_glob {x : Str} {v : V} {u : Value} {pos : Pos} (hg : Gl X x) (hm : X.mg x = some u) (r : RelV v u) (hd : (x == ("__debug__" : Str)) = false := by decide) : PE X (.Name x pos) (tC v) :=
  fun _ _ _ H _ I h => ld_glob I hg hm ⟨v, H, I, r, h⟩ hd
theorem pe_bltn {x : Str} {v : V} {u : Value} {pos : Pos} (hg : Gl X x) (hm : X.mg x = none) (hv : bootBuiltins x = some u) (r : RelV v u) (hn : x ≠ "__name__" := by decide) (hd : (x == ("__debug__" : Str)) = false := by decide) : PE X (.Name x pos) (tC v) :=
  fun _ _ _ H _ I h => ld_blt I hg hm hv ⟨v, H, I, r, h⟩ hn hd
variable {a b : Expr} {ta tb : TE} {pos : Pos}
def PC (X : Cx) (op : CmpOp) (a b : Expr) (t : TE) : Prop :=
  ∀ (pins : List (Addr × Obj)) (s : Shared) (σ : St) (H : Hp) (Q : VK), Inv X pins σ H s → t σ H Q →
    wpAny (model X.prog X.w) X.A (eval a X.env) (fun v s₁ => wpAny (model X.prog X.w) X.A (eval b X.env) (fun u s₂ => wpAny (model X.prog X.w) X.A (compareOp op v u) (EP X pins σ Q) X.xe s₂) X.xe s₁) X.xe s
def tB (t : TE) : TT := fun σ H Q => t σ H fun x H1 => ∃ c, x = .bl c ∧ Q c H1
theorem pt_cmp {op : CmpOp} {t : TE} (h : PC X op a b t) (h1 : behindInMarks op b = false := by first | exact nobehind _ (by decide) (by decide) | rfl) : PT X (.Compare a [op] [b] pos) (tB t) := by
  intro pins s σ H Q I hw
  refine wpAny_isTrue_Compare1 (thn (h pins s σ H _ I hw) fun v s1 h1 => thn h1 fun u s2 h2 => thn h2 fun c s3 ⟨x, H1, I1, r1, q1⟩ => ?_) h1
  obtain ⟨d, rfl, q⟩ := q1
  cases r1
  exact wpAny_truthy_bool ⟨H1, I1, q⟩
theorem pt_val {e : Expr} {t : TE} (h : PE X e t) (he : ∀ whole, isTrue e X.env whole = (do let v ← whole; standAt e.pos; holding [v] (truthy v)) := by intro _; rfl) : PT X e (tB t) := by
  intro pins s σ H Q I hw
  refine isTrue_plain (thn (h pins s σ H _ I hw) fun v s1 ⟨x, H1, I1, r1, q1⟩ => ?_) (he _)
  obtain ⟨d, rfl, q⟩ := q1
  cases r1
  exact wpAny_truthy_bool ⟨H1, I1, q⟩
variable {tA tB' : TT} {rest : List Expr}
def tOr (t u : TT) : TT := fun σ H Q => t σ H fun c H1 => if c = true then Q true H1 else u σ H1 Q
def tNot (t : TT) : TT := fun σ H Q => t σ H fun c H1 => Q (!c) H1
theorem pw_or1 (ha : PT X a tA) : PW X (.BoolOp .Or [a] pos) tA := by
  intro wh pins s σ H Q I h
  refine isTrue_or (thn (ha pins s σ H Q I h) fun c s1 e => ?_)
  cases c with
  | false => exact isTrue_or_nil e
  | true => exact e
theorem pw_or (ha : PT X a tA) (hb : PW X (.BoolOp .Or (b :: rest) pos) tB') : PW X (.BoolOp .Or (a :: b :: rest) pos) (tOr tA tB') := by
  intro wh pins s σ H Q I h
  refine isTrue_or (thn (ha pins s σ H _ I h) fun c s1 ⟨H1, I1, q1⟩ => ?_)
  cases c with
  | true => exact ⟨H1, I1, q1⟩
  | false => exact hb wh pins s1 σ H1 Q I1 q1
theorem pt_not (ha : PT X a tA) : PT X (.UnaryOp .Not a pos) (tNot tA) := by
  intro pins s σ H Q I h
  exact isTrue_not (ha pins s σ H (fun c H1 => Q (!c) H1) I h)
def tAndV (ta tb : TE) : TE := fun σ H Q => ta σ H fun x H1 => ∃ c, x = .bl c ∧ if c = true then tb σ H1 Q else Q (.bl false) H1
def tNotV (ta : TE) : TE := fun σ H Q => ta σ H fun x H1 => ∃ c, x = .bl c ∧ Q (.bl (!c)) H1
theorem pe_one {op} {t : TE} (h : PE X a t) : PE X (.BoolOp op [a] pos) t := fun pins s σ H Q I hw => BoolOp_one (h pins s σ H Q I hw)
theorem pe_and (ha : PE X a ta) (hb : PE X (.BoolOp .And (b :: rest) pos) tb) : PE X (.BoolOp .And (a :: b :: rest) pos) (tAndV ta tb) := by
  intro pins s σ H Q I h
  refine BoolOp_and (thn (ha pins s σ H _ I h) fun v s1 ⟨x, H1, I1, r1, q1⟩ => ?_)
  obtain ⟨c, rfl, q1⟩ := q1
  cases r1
  refine wpAny_truthy_bool ?_
  cases c with
  | true => exact hb pins s1 σ H1 Q I1 q1
  | false => exact ⟨.bl false, H1, I1, rfl, q1⟩
theorem pe_not (ha : PE X a ta) : PE X (.UnaryOp .Not a pos) (tNotV ta) := by
  intro pins s σ H Q I h
  refine UnaryOp_ (thn (ha pins s σ H _ I h) fun v s1 ⟨x, H1, I1, r1, q1⟩ => ?_)
  obtain ⟨c, rfl, q1⟩ := q1
  cases r1
  exact not_of (wpAny_truthy_bool ⟨.bl (!c), H1, I1, rfl, q1⟩)
end
end L2
namespace L2
open PySem PySem.Spec PyProof.Rows
def SqL (K : PySem.W.Frag) (H : Hp) (a : Addr) (xs : List V) : Prop :=
  Rd H a (.lst xs) ∨
    ∃ (o : Obj) (its : Array Value) (n : Nat), K.lookup a = some o ∧ o.cls = .type "list" ∧ o.dict = none ∧ o.data = .seq its n ∧ its.size ≤ sizeLine ∧ Vals xs its.toList
def SqT (K : PySem.W.Frag) (H : Hp) (a : Addr) (xs : List V) : Prop :=
  Rd H a (.tup xs) ∨
    ∃ (o : Obj) (its : Array Value) (n : Nat), K.lookup a = some o ∧ o.cls = .type "tuple" ∧ o.data = .seq its n ∧ its.size ≤ sizeLine ∧ Vals xs its.toList
def absV : Value → Option V
  | .none => some .non
  | .bool b => some (.bl b)
  | .int i _ => some (.int i)
  | .str x _ => some (.str x)
  | .bytes b _ => some (.byt b)
  | .float b _ => some (.flt b)
  | .ref a => some (.ref a)
  | .type n => some (.ty n)
  | _ => none
theorem RelV.abs {x : V} {u : Value} (r : RelV x u) : absV u = some x := by
  cases x with
  | non => cases r; rfl
  | bl _ => cases r; rfl
  | int _ => obtain ⟨t, rfl⟩ := r; rfl
  | str _ => obtain ⟨t, rfl⟩ := r; rfl
  | byt _ => obtain ⟨t, rfl⟩ := r; rfl
  | flt _ => obtain ⟨t, rfl⟩ := r; rfl
  | ref _ => cases r; rfl
  | ty _ => cases r; rfl
theorem RelV.inj {x y : V} {u : Value} (r : RelV x u) (q : RelV y u) : x = y := Option.some.inj (r.abs.symm.trans q.abs)
theorem Vals.inj : ∀ {xs ys : List V} {us : List Value}, Vals xs us → Vals ys us → xs = ys
  | _, _, _, .nil, .nil => rfl
  | _, _, _, .cons r t, .cons r' t' => by rw [r.inj r', Vals.inj t t']
section
variable {X : Cx} {pins : List (Addr × Obj)} {σ : St} {H : Hp} {s : Shared} {a : Addr} {xs ys : List V}
theorem SqL.of {K : PySem.W.Frag} (h : H a = some (.lst xs)) : SqL K H a xs := .inl (.inl h)
theorem SqT.of {K : PySem.W.Frag} (h : H a = some (.tup xs)) : SqT K H a xs := .inl (.inl h)
theorem Inv.list (I : Inv X pins σ H s) (h : SqL X.K H a xs) : ∃ its : List Value, Vals xs its ∧ PlainL s.heap a its.toArray ∧ xs.length ≤ sizeLine := by
  rcases h with h | ⟨o, its, n, hk, hc, hd, hs, hz, r⟩
  · obtain ⟨z, its, n, r, e⟩ := h.ok I.hok
    exact ⟨its, r, ⟨_, n, e, rfl, rfl, rfl⟩, z⟩
  · refine ⟨its.toList, r, ⟨o, n, I.kIn a o hk, hc, hd, by simpa using hs⟩, ?_⟩
    have e := r.length
    simp only [Array.length_toList] at e
    omega
theorem Inv.tuple (I : Inv X pins σ H s) (h : SqT X.K H a xs) : ∃ its : List Value, Vals xs its ∧ IsTup s.heap a its.toArray ∧ xs.length ≤ sizeLine := by
  rcases h with h | ⟨o, its, n, hk, hc, hs, hz, r⟩
  · obtain ⟨z, its, r, p⟩ := h.ok I.hok
    exact ⟨its, r, p, z⟩
  · refine ⟨its.toList, r, ⟨o, I.kIn a o hk, hc, n, by simpa using hs⟩, ?_⟩
    have e := r.length
    simp only [Array.length_toList] at e
    omega
theorem Inv.list_inj (I : Inv X pins σ H s) (h : SqL X.K H a xs) (h' : SqL X.K H a ys) : xs = ys := by
  obtain ⟨its, r, ⟨o, n, e, _, _, d⟩, _⟩ := I.list h
  obtain ⟨its', r', ⟨o', n', e', _, _, d'⟩, _⟩ := I.list h'
  rw [e] at e'; cases e'
  rw [d] at d'
  injection d' with d1 _
  have : its = its' := by simpa using congrArg Array.toList d1
  subst this
  exact r.inj r'
end
abbrev Cx.wish (X : Cx) (E : Value → Shared → Prop) : Cx := { X with xe := E }
abbrev Cx.nox (X : Cx) : Cx := X.wish fun _ _ => False
theorem Cx.Ok.wish {X : Cx} (ok : X.Ok) (E : Value → Shared → Prop) : (X.wish E).Ok :=
  ⟨ok.mod, ok.kind, ok.glob, ok.blt, ok.above, ok.inj, ok.has, ok.cab, ok.hd, ok.frames, ok.stk, ok.exf, ok.bs, ok.bsz, ok.noex, ok.exfs, ok.funs, ok.frf⟩
theorem Cx.Ok.unwish {X : Cx} {E : Value → Shared → Prop} (ok : (X.wish E).Ok) : X.Ok :=
  ⟨ok.mod, ok.kind, ok.glob, ok.blt, ok.above, ok.inj, ok.has, ok.cab, ok.hd, ok.frames, ok.stk, ok.exf, ok.bs, ok.bsz, ok.noex, ok.exfs, ok.funs, ok.frf⟩
section
variable {X : Cx} {pins : List (Addr × Obj)} {σ : St} {H : Hp} {s : Shared} {E : Value → Shared → Prop}
theorem Inv.wish (I : Inv X pins σ H s) (E : Value → Shared → Prop) : Inv (X.wish E) pins σ H s := ⟨I.ok.wish E, I.os, I.bare, I.base, I.loc, I.cell, I.free, I.freeC, I.pin, I.hok, I.len⟩
theorem Inv.unwish (I : Inv (X.wish E) pins σ H s) : Inv X pins σ H s := ⟨I.ok.unwish, I.os, I.bare, I.base, I.loc, I.cell, I.free, I.freeC, I.pin, I.hok, I.len⟩
theorem SP.unwish {D : Ends} {f : Flow} {s' : Shared} (h : SP (X.wish E) pins D f s') : SP X pins D f s' := by
  cases f with
  | next => obtain ⟨σ', H', I, q⟩ := h; exact ⟨σ', H', I.unwish, q⟩
  | brk => obtain ⟨σ', H', I, q⟩ := h; exact ⟨σ', H', I.unwish, q⟩
  | cont => obtain ⟨σ', H', I, q⟩ := h; exact ⟨σ', H', I.unwish, q⟩
  | ret u => obtain ⟨v, σ', H', I, r, q⟩ := h; exact ⟨v, σ', H', I.unwish, r, q⟩
theorem PSs.nox {st : List Stmt} {t : TS} (h : PSs X.nox st t) : PSs X st t := fun pins s σ H D I hw =>
  wpAny_mono (h pins s σ H D (I.wish _) hw) (fun _ _ q => q.unwish) fun _ _ z => False.elim z
end
section
variable {X : Cx} {st : Stmt} {rest : List Stmt} {t u : TS} {e : Expr} {te : TE} {pos : Pos}
def tNext : TS := fun D σ H => D.nx σ H
def tSeq (t u : TS) : TS := fun D σ H => t { D with nx := u D } σ H
theorem pss_nil : PSs X [] tNext := fun _ _ σ H _ I h => wpAny_execs_nil ⟨σ, H, I, h⟩
theorem pss_cons (h1 : PS X st t) (h2 : PSs X rest u) : PSs X (st :: rest) (tSeq t u) := by
  intro pins s σ H D I h
  refine wpAny_execs_cons (thn (h1 pins s σ H { D with nx := u D } I h) fun f s1 q => ?_)
  cases f with
  | next =>
    obtain ⟨σ', H', I', q⟩ := q
    exact h2 pins s1 σ' H' D I' q
  | ret v => exact q
  | brk => exact q
  | cont => exact q
theorem pss_one (h1 : PS X st t) : PSs X [st] t := by
  intro pins s σ H D I h
  refine wpAny_execs_cons (thn (h1 pins s σ H D I h) fun f s1 q => ?_)
  cases f with
  | next => exact wpAny_execs_nil q
  | ret v => exact q
  | brk => exact q
  | cont => exact q
theorem Inv.quiet {pins : List (Addr × Obj)} {σ : St} {H : Hp} {s : Shared} (I : Inv X pins σ H s) : interactive X.env = false := by simp [interactive, I.ok.kind]
def tDrop (te : TE) : TS := fun D σ H => te σ H fun _ H1 => D.nx σ H1
theorem ps_expr (he : PE X e te) (hs : swapsWith e none pos.line X.env = pure false := by rfl) : PS X (.Expr e pos) (tDrop te) := by
  intro pins s σ H D I h
  exact wpAny_Expr_any (thn (he pins s σ H _ I h) fun v s1 ⟨x, H1, I1, r1, q1⟩ => ⟨σ, H1, I1, q1⟩) I.quiet hs
def tRet (te : TE) : TS := fun D σ H => te σ H D.rt
theorem ps_ret (he : PE X e te) : PS X (.Return (some e) pos) (tRet te) := by
  intro pins s σ H D I h
  exact wpAny_Return_some (thn (he pins s σ H _ I h) fun v s1 ⟨x, H1, I1, r1, q1⟩ => ⟨x, σ, H1, I1, r1, q1⟩)
def tIfS (c : TT) (t u : TS) : TS := fun D σ H => c σ H fun b H1 => if b = true then t D σ H1 else u D σ H1
theorem ps_if {c : Expr} {a b : List Stmt} {tc : TT} (hc : PT X c tc) (ha : PSs X a t) (hb : PSs X b u) : PS X (.If c a b pos) (tIfS tc t u) := by
  intro pins s σ H D I h
  refine wpAny_If (thn (hc pins s σ H _ I h) fun d s1 ⟨H1, I1, q1⟩ => ?_)
  cases d with
  | true => exact ha pins s1 σ H1 D I1 q1
  | false => exact hb pins s1 σ H1 D I1 q1
def tNever : TS := fun _ _ _ => False
theorem ps_never : PS X st tNever := fun _ _ _ _ _ _ h => h.elim
end
abbrev TG := V → St → Hp → (St → Hp → Prop) → Prop
abbrev TGs := List V → St → Hp → (St → Hp → Prop) → Prop
def PG (X : Cx) (target : Expr) (t : TG) : Prop :=
  ∀ (pins : List (Addr × Obj)) (s : Shared) (σ : St) (H : Hp) (v : V) (u : Value) (Q : St → Hp → Prop), Inv X pins σ H s → RelV v u → t v σ H Q →
    wpAny (model X.prog X.w) X.A (assign target X.env u) (fun _ s' => ∃ σ' H', Inv X pins σ' H' s' ∧ Q σ' H') X.xe s
def PGs (X : Cx) (ts : List Expr) (t : TGs) : Prop :=
  ∀ (pins : List (Addr × Obj)) (s : Shared) (σ : St) (H : Hp) (vs : List V) (us : List Value) (Q : St → Hp → Prop), Inv X pins σ H s → Vals vs us → t vs σ H Q →
    wpAny (model X.prog X.w) X.A (assignInOrder ((assignEach ts X.env).map (·.2)) us) (fun _ s' => ∃ σ' H', Inv X pins σ' H' s' ∧ Q σ' H') X.xe s
abbrev TSet := V → V → V → Hp → (Hp → Prop) → Prop
def PSet (X : Cx) (t : TSet) : Prop :=
  ∀ (pins : List (Addr × Obj)) (s : Shared) (σ : St) (H : Hp) (o i v : V) (ov iv u : Value) (Q : Hp → Prop), Inv X pins σ H s → RelV o ov → RelV i iv → RelV v u → t o i v H Q →
    wpAny (model X.prog X.w) X.A (setItem ov iv u) (fun _ s' => ∃ H', Inv X pins σ H' s' ∧ Q H') X.xe s
section
variable {X : Cx} {pos : Pos}
def gName (i : Nat) : TG := fun v σ H Q => Q (σ.set i (some v)) H
theorem pg_name {i : Nat} {x : Str} (hN : X.N.Nodup) (hi : X.N[i]? = some x) (hx : Loc X.env.scope x) (hf : X.fn x = true ∨ X.env.scope.names.lookup x = some .local := by first | exact .inl rfl | exact .inr rfl | assumption) : PG X (.Name x pos) (gName i) := by
  intro pins s σ H v u Q I r h
  exact wpAny_assign_Name (store_ok I hN hi hx r (fun s' I' => ⟨_, H, I', h⟩) hf)
def gNil : TGs := fun vs σ H Q => vs = [] ∧ Q σ H
def gCons (t : TG) (u : TGs) : TGs := fun vs σ H Q => ∃ v r, vs = v :: r ∧ t v σ H fun σ' H' => u r σ' H' Q
theorem pgs_nil : PGs X [] gNil := by
  intro pins s σ H vs us Q I r h
  obtain ⟨e, h⟩ := h
  subst e
  cases r
  exact assignInOrder_nil ⟨σ, H, I, h⟩
theorem pgs_cons {e : Expr} {es : List Expr} {t : TG} {u : TGs} (h1 : PG X e t) (h2 : PGs X es u)
    (hs : (assignEach (e :: es) X.env).map (·.2) = assign e X.env :: (assignEach es X.env).map (·.2) := by rfl) : PGs X (e :: es) (gCons t u) := by
  intro pins s σ H vs us Q I r h
  obtain ⟨v, vr, e1, h⟩ := h
  subst e1
  cases r with
  | cons r rr =>
    rw [hs]
    refine assignInOrder_cons (thn (h1 pins s σ H _ _ _ I r h) fun _ s1 ⟨σ1, H1, I1, q1⟩ => ?_)
    exact h2 pins s1 σ1 H1 _ _ Q I1 rr q1
def gTup (K : PySem.W.Frag) (n : Nat) (t : TGs) : TG := fun v σ H Q => ∃ a xs, v = .ref a ∧ SqT K H a xs ∧ xs.length = n ∧ t xs σ H Q
theorem pg_tup {es : List Expr} {k : Nat} {t : TGs} {n : Nat} (hc : X.calm = true) (h : PGs X es t)
    (hn : (assignEach es X.env).length = n := by rfl) (hst : (assignEach es X.env).findIdx? (·.1) = none := by rfl) : PG X (.Tuple es k pos) (gTup X.K n t) := by
  intro pins s σ H v u Q I r hw
  obtain ⟨a, xs, e1, hq, hl, hw⟩ := hw
  subst e1
  cases r
  obtain ⟨its, rv, ht, hz⟩ := I.tuple hq
  refine assign_Tuple_tuple (I.ok.hd hc) ht (by simp [hn, ← hl, rv.length]) hst fun h' hx => ?_
  have I1 : Inv X pins σ H { s with heap := h' } := I.kept (t' := s.toks) fun b o e => hx b o (Nat.ne_of_lt (Heap.lt_size e)) e
  exact h pins _ σ H xs _ Q I1 (by simpa using rv) hw
def gSub (to ti : TE) (t : TSet) : TG := fun v σ H Q => to σ H fun o H1 => ti σ H1 fun i H2 => t o i v H2 fun H3 => Q σ H3
theorem pg_sub {o i : Expr} {to ti : TE} {t : TSet} (ho : PE X o to) (hi : PE X i ti) (hs : PSet X t)
    (ha : ∀ v, assign (.Subscript o i pos) X.env v = (do
      let ov ← holding [v] (eval o X.env)
      let iv ← holding [v, ov] (eval i X.env)
      standAt pos
      holding [v, ov, iv] (setItem ov iv v)
      release [v, ov, iv] []) := by intro _; rfl) : PG X (.Subscript o i pos) (gSub to ti t) := by
  intro pins s σ H v u Q I r h
  rw [ha]
  refine wpAny_bind (wpAny_holding (thn (ho pins s σ H _ I h) fun ov s1 ⟨x, H1, I1, r1, q1⟩ => ?_))
  refine wpAny_bind (wpAny_holding (thn (hi pins s1 σ H1 _ I1 q1) fun iv s2 ⟨y, H2, I2, r2, q2⟩ => ?_))
  refine wpAny_bind (wpAny_standAt (wpAny_bind (wpAny_holding (thn (hs pins s2 σ H2 x y v ov iv u _ I2 r1 r2 r q2) fun _ s3 ⟨H3, I3, q3⟩ => ?_))))
  exact wpAny_release ⟨σ, H3, I3, q3⟩
def tAsg (te : TE) (g : TG) : TS := fun D σ H => te σ H fun x H1 => g x σ H1 D.nx
theorem ps_asg {tg e : Expr} {te : TE} {g : TG} (he : PE X e te) (hg : PG X tg g) (hs : swapsWithSole [tg] e pos.line X.env = pure false := by rfl) (hw : swappedStores [tg] e X.env = pure none := by rfl)
    (h1 : (assignEach [tg] X.env).map (·.2) = [assign tg X.env] := by rfl) : PS X (.Assign [tg] e pos) (tAsg te g) := by
  intro pins s σ H D I h
  refine wpAny_Assign_stores (thn (he pins s σ H _ I h) fun v s1 ⟨x, H1, I1, r1, q1⟩ => ?_) hs hw
  rw [h1]
  exact thn (hg pins s1 σ H1 x v _ I1 r1 q1) fun _ s2 q => q
theorem ps_set {i : Nat} {x : Str} {e : Expr} {te : TE} {pos' : Pos} (hN : X.N.Nodup) (hi : X.N[i]? = some x) (hx : Loc X.env.scope x) (he : PE X e te) (hs : swapsWith e (some (.Name x pos')) pos.line X.env = pure false := by rfl) (hf : X.fn x = true ∨ X.env.scope.names.lookup x = some .local := by first | exact .inl rfl | exact .inr rfl | assumption) :
    PS X (.Assign [.Name x pos'] e pos) (tAsg te (gName i)) := by
  intro pins s σ H D I h
  refine wpAny_Assign_Name (thn (he pins s σ H _ I h) fun v s1 ⟨y, H1, I1, r1, q1⟩ => ?_) hs
  exact store_ok I1 hN hi hx r1 (fun s2 I2 => ⟨_, H1, I2, q1⟩) hf
end
section
variable {X : Cx} {pos : Pos}
def tWhile (c : TT) (tb : TS) : TS := fun D σ H => ∃ W : Nat → St → Hp → Prop, (∃ m, W m σ H) ∧ ∀ m σ H, W m σ H →
  c σ H fun b H1 => if b = true then ∃ N : St → Hp → Prop, (∀ σ' H', N σ' H' → ∃ m', m' < m ∧ W m' σ' H') ∧ tb { D with nx := N, ct := N, bk := D.nx } σ H1 else D.nx σ H1
theorem ps_while {c : Expr} {body : List Stmt} {tc : TT} {tb : TS} (hp : PassesOwn (model X.prog X.w) X.A X.env X.xe) (hc : PT X c tc) (hb : PSs X body tb) : PS X (.While c body [] pos) (tWhile tc tb) := by
  intro pins s σ H D I h
  obtain ⟨W, ⟨m0, w0⟩, turn⟩ := h
  refine wpAny_While (codeAny_whileLoop (fun n s' => ∃ σ' H', Inv X pins σ' H' s' ∧ W n σ' H') ?_ m0 ⟨σ, H, I, w0⟩)
  rintro n s1 ⟨σ1, H1, I1, w1⟩
  refine wpAny_passesOwn hp (thn (hc pins s1 σ1 H1 _ I1 (turn n σ1 H1 w1)) fun b s2 ⟨H2, I2, q2⟩ => ?_)
  cases b with
  | true =>
    obtain ⟨N, hN, q2⟩ := q2
    rw [if_pos rfl]
    refine wpAny_passesOwn hp (thn (hb pins s2 σ1 H2 _ I2 q2) fun f s3 q3 => ?_)
    cases f with
    | next =>
      obtain ⟨σ3, H3, I3, n3⟩ := q3
      obtain ⟨m', hm, w3⟩ := hN σ3 H3 n3
      exact ⟨m', hm, σ3, H3, I3, w3⟩
    | cont =>
      obtain ⟨σ3, H3, I3, n3⟩ := q3
      obtain ⟨m', hm, w3⟩ := hN σ3 H3 n3
      exact ⟨m', hm, σ3, H3, I3, w3⟩
    | brk => exact q3
    | ret v => exact q3
  | false =>
    rw [if_neg Bool.false_ne_true]
    exact wpAny_execs_nil ⟨σ1, H2, I2, q2⟩
end
structure It where
  go : Nat → Hp → Prop
  yld : Nat → Hp → V → Hp → Prop
  stop : Nat → Hp → Prop
def FpOk (X : Cx) (pins : List (Addr × Obj)) (H : Hp) (b : Addr) : Prop :=
  H b = none ∧ b ≠ X.env.locals ∧ b ∉ X.fs ∧ (b ∈ X.ex ∨ X.s₀.heap.objs.size ≤ b) ∧ (∀ x c, X.env.cells.lookup x = some c → c ≠ b) ∧ ∀ p ∈ X.pn ++ pins, p.1 ≠ b
theorem Inv.fpOk {X : Cx} {pins : List (Addr × Obj)} {σ : St} {H H' : Hp} {s : Shared} {b : Addr} (I : Inv X pins σ H s) (hb : s.heap.objs.size ≤ b) (hn : H' b = none) : FpOk X pins H' b := by
  refine ⟨hn, Nat.ne_of_gt (Nat.lt_of_lt_of_le I.lt hb), I.nofs hb, .inr (Nat.le_trans I.sz hb), fun x c e z => ?_, fun p hp z => ?_⟩
  · obtain ⟨v, q⟩ := I.cell x c e
    exact absurd (Nat.lt_of_lt_of_le q.lt (by rw [z]; exact hb)) (Nat.lt_irrefl _)
  · exact absurd (Nat.lt_of_lt_of_le (Heap.lt_size (I.pin p hp).1) (by rw [z]; exact hb)) (Nat.lt_irrefl _)
structure Turn (P : Program) (w : World) (K : PySem.W.Frag) (tg : Expr) (J : It) (fp : List Addr) (it : Addr) (tn : Nat → Heap → Prop) : Prop where
  mem : it ∈ fp
  obj : ∀ i h, tn i h → ∀ b ∈ fp, ∃ o, h.get? b = some o ∧ ∀ v, o.data ≠ .cell v
  keep : ∀ i h h', tn i h → (∀ b ∈ fp, ∀ o, h.get? b = some o → h'.get? b = some o) → tn i h'
  item : ∀ (X : Cx), X.prog = P → X.w = w → X.K = K → X.calm = true → ∀ (i : Nat) (pins : List (Addr × Obj)) (s : Shared) (σ : St) (H : Hp) (E : Value → Shared → Prop), Inv X pins σ H s → (∀ b ∈ fp, FpOk X pins H b) → tn i s.heap → J.go i H →
    wpAny (model P w) X.A (pyNext (.ref it)) (fun r s1 => ∃ u, r = some u ∧
      wpAny (model P w) X.A (letOwnedTupleGo tg (.ref it) u) (fun _ s2 => ∃ x H', Inv X pins σ H' s2 ∧ RelV x u ∧ J.yld i H x H' ∧ tn (i + 1) s2.heap ∧ ∀ b ∈ fp, H' b = none) E s1) E s
  done : ∀ (X : Cx), X.prog = P → X.w = w → X.K = K → X.calm = true → ∀ (i : Nat) (pins : List (Addr × Obj)) (s : Shared) (σ : St) (H : Hp) (E : Value → Shared → Prop), Inv X pins σ H s → (∀ b ∈ fp, FpOk X pins H b) → tn i s.heap → J.stop i H →
    wpAny (model P w) X.A (pyNext (.ref it)) (fun r s1 => r = none ∧ Inv X pins σ H s1) E s
  self : ∀ (A : Around) (i : Nat) (s : Shared) (Q : Value → Shared → Prop) (E : Value → Shared → Prop), tn i s.heap → Q (.ref it) s → wpAny (model P w) A (pyIter (.ref it)) Q E s
abbrev TI := St → Hp → (It → Hp → Prop) → Prop
def PIE (X : Cx) (pins : List (Addr × Obj)) (σ : St) (tg : Expr) (R : It → Hp → Prop) (itv : Value) (s2 : Shared) : Prop :=
  ∃ (it : Addr) (fp : List Addr) (tn : Nat → Heap → Prop) (J : It) (H' : Hp), itv = .ref it ∧ Inv X pins σ H' s2 ∧ Turn X.prog X.w X.K tg J fp it tn ∧ tn 0 s2.heap ∧ (∀ b ∈ fp, FpOk X pins H' b) ∧ R J H'
def PI (X : Cx) (tg iter : Expr) (wi : TI) : Prop :=
  ∀ (pins : List (Addr × Obj)) (s : Shared) (σ : St) (H : Hp) (R : It → Hp → Prop), Inv X pins σ H s → wi σ H R →
    wpAny (model X.prog X.w) X.A (eval iter X.env) (fun v s1 => wpAny (model X.prog X.w) X.A (pyIter v) (PIE X pins σ tg R) X.xe s1) X.xe s
theorem go_of {M : Model} {A : Around} {E : Value → Shared → Prop} {s : Shared} {tg : Expr} {it : Addr} {u : Value} {o : Obj} {n : String} {vs : Array Value} {Q : Unit → Shared → Prop} (ho : s.heap.get? it = some o) (hc : o.cls = .type n) (hd : o.data = .fields vs)
    (hn : ["enumerate", "zip", "dict_itemiterator", "dict_reverseitemiterator", "odict_iterator", "itertools.zip_longest", "itertools.pairwise"].contains n = false) (hQ : Q () s) : wpAny M A (letOwnedTupleGo tg (.ref it) u) Q E s := by
  unfold letOwnedTupleGo
  cases tg <;> first
    | exact wpAny_pure hQ
    | (cases u <;> first
        | exact wpAny_pure hQ
        | (refine wpAny_bind (wpAny_load ho ?_)
           rw [hc, hd]
           show wpAny M A (if (["enumerate", "zip", "dict_itemiterator", "dict_reverseitemiterator", "odict_iterator", "itertools.zip_longest", "itertools.pairwise"].contains n && vs[0]? == some (rawInt _)) = true then _ else _) Q E s
           rw [if_neg (by intro h; rw [hn, Bool.false_and] at h; cases h)]
           exact wpAny_pure hQ))
def Itl (K : PySem.W.Frag) (a : Addr) : It :=
  ⟨fun i H => ∃ xs x, SqL K H a xs ∧ xs[i]? = some x, fun i H x H' => H' = H ∧ ∀ xs, SqL K H a xs → xs[i]? = some x, fun i H => ∃ xs, SqL K H a xs ∧ xs.length ≤ i⟩
def Itr (lo : Int) (n : Nat) : It := ⟨fun i _ => i < n, fun i H x H' => H' = H ∧ x = .int (lo + i), fun i _ => n ≤ i⟩
theorem turn_list {P : Program} {w : World} {K : PySem.W.Frag} {tg : Expr} (a it : Addr) : Turn P w K tg (Itl K a) [it] it (fun i h => h.IsListIter it a i) where
  mem := by simp
  obj := fun i h st b hb => by
    have e : b = it := by simpa using hb
    subst e
    obtain ⟨o, e, c, d⟩ := st
    exact ⟨o, e, fun v z => by rw [d] at z; cases z⟩
  keep := fun i h h' st k => st.at fun o e => k it (by simp) o e
  item := by
    intro X hP hw hK hc i pins s σ H E I hf st hg
    subst hP hw hK
    obtain ⟨xs, x, hq, hx⟩ := hg
    obtain ⟨its, rv, p, hz⟩ := I.list hq
    obtain ⟨u, hu, ru⟩ := rv.get hx
    obtain ⟨f0, f1, f2, f3, f4, f5⟩ := hf it (by simp)
    refine wpAny_pyNext_list_item st p.isList (x := u) (by simpa using hu) fun h' st' sb => ?_
    have I1 : Inv X pins σ H { s with heap := h' } := I.turned (t' := s.toks) (fun b o hb e => (sb.2 b hb).trans e) f0 f1 f3 f4 f5
    obtain ⟨o, e, c, d⟩ := id st'
    exact ⟨u, rfl, go_of (s := { s with heap := h' }) e c d (by decide) ⟨x, H, I1, ru, ⟨rfl, fun ys hy => by rw [I.list_inj hy hq]; exact hx⟩, st', fun b hb => (hf b hb).1⟩⟩
  done := by
    intro X hP hw hK hc i pins s σ H E I hf st hg
    subst hP hw hK
    obtain ⟨xs, hq, hx⟩ := hg
    obtain ⟨its, rv, p, hz⟩ := I.list hq
    obtain ⟨f0, f1, f2, f3, f4, f5⟩ := hf it (by simp)
    have hl := rv.length
    exact wpAny_pyNext_list_end (I.ok.hd hc) st p.isList (by simp; omega) fun h' eb => ⟨rfl, I.turned (t' := s.toks) (fun b o hb e => eb b o hb e) f0 f1 f3 f4 f5⟩
  self := fun _ _ _ _ _ st h => wpAny_pyIter_listiter st h
theorem turn_range {P : Program} {w : World} {K : PySem.W.Frag} {tg : Expr} (it : Addr) (lo : Int) (n : Nat) : Turn P w K tg (Itr lo n) [it] it (fun i h => IsRangeIter h it (lo + (i : Nat) * 1) ((n : Int) - (i : Nat)) 1) where
  mem := by simp
  obj := fun i h st b hb => by
    have e : b = it := by simpa using hb
    subst e
    exact ⟨_, st, fun v z => by
      have z' : Data.fields _ = Data.cell v := z
      cases z'⟩
  keep := fun i h h' st k => k it (by simp) _ st
  item := by
    intro X hP hw hK hc i pins s σ H E I hf st hg
    subst hP hw hK
    obtain ⟨f0, f1, f2, f3, f4, f5⟩ := hf it (by simp)
    have W := Walks.range (prog := X.prog) (w := X.w) (I.ok.hd hc) it lo 1 n
    refine W.item i s _ _ hg st fun v h' tk hv st' kk => ?_
    obtain ⟨t, rfl⟩ := hv
    have I1 : Inv X pins σ H { s with heap := h', toks := tk } := I.turned (fun b o hb e => kk b o (by simpa using hb) e) f0 f1 f3 f4 f5
    refine ⟨_, rfl, go_of (s := { s with heap := h', toks := tk }) (n := "range_iterator") st' rfl rfl (by decide) ⟨.int (lo + i), H, I1, ⟨t, ?_⟩, ⟨rfl, rfl⟩, st', fun b hb => (hf b hb).1⟩⟩
    rw [Int.mul_one]
  done := by
    intro X hP hw hK hc i pins s σ H E I hf st hg
    subst hP hw hK
    obtain ⟨f0, f1, f2, f3, f4, f5⟩ := hf it (by simp)
    exact wpAny_pyNext_range_end (I.ok.hd hc) st (by have : n ≤ i := hg; omega) fun h' eb => ⟨rfl, I.turned (t' := s.toks) (fun b o hb e => eb b o hb e) f0 f1 f3 f4 f5⟩
  self := fun _ _ _ _ _ st h => wpAny_pyIter_rangeiter st h
end L2
namespace L2
open PySem PySem.Spec PyProof.Rows
section
variable {X : Cx} {tg : Expr}
def iList (K : PySem.W.Frag) (tl : TE) : TI := fun σ H R => tl σ H fun x H1 => ∃ a, x = .ref a ∧ (∃ xs, SqL K H1 a xs) ∧ R (Itl K a) H1
theorem pi_list {l : Expr} {tl : TE} (hl : PE X l tl) : PI X tg l (iList X.K tl) := by
  intro pins s σ H R I h
  refine thn (hl pins s σ H _ I h) fun v s1 ⟨x, H1, I1, r1, q1⟩ => ?_
  obtain ⟨a, e, ⟨xs, hq⟩, q⟩ := q1
  subst e
  cases r1
  obtain ⟨its, rv, p, hz⟩ := I1.list hq
  refine wpAny_pyIter_list p.isList ?_
  refine ⟨s1.heap.objs.size, [s1.heap.objs.size], _, _, H1, rfl, I1.kept (t' := s1.toks) fun b o e => Heap.get?_push_of_some _ e, turn_list a _, ⟨_, Heap.get?_push_size _ rfl, rfl, rfl⟩, fun b hb => ?_, q⟩
  have e : b = s1.heap.objs.size := by simpa using hb
  subst e
  exact I1.fpOk (Nat.le_refl _) (I1.hok.fresh (Nat.le_refl _))
theorem range_it {pins : List (Addr × Obj)} {σ : St} {H : Hp} {s : Shared} {R : It → Hp → Prop} {E : Value → Shared → Prop} {lo hi : Int} {t u v : Tok} {tk : Nat} (I : Inv X pins σ H s) (h1 : -(2 ^ 62) ≤ lo) (h2 : lo < 2 ^ 62) (h3 : -(2 ^ 62) ≤ hi) (h4 : hi < 2 ^ 62)
    (q : R (Itr lo (hi - lo).toNat) H) : wpAny (model X.prog X.w) X.A (pyIter (.ref s.heap.objs.size)) (PIE X pins σ tg R) E { s with heap := s.heap.push { cls := .type "range", data := .fields #[.int lo t, .int hi u, .int 1 v] }, toks := tk } := by
  refine wpAny_pyIter_range (IsRange.new ..) (small_one h1 h2 h3 h4) ?_
  have I1 : Inv X pins σ H { s with heap := s.heap.push { cls := .type "range", data := .fields #[.int lo t, .int hi u, .int 1 v] }, toks := tk } := I.kept fun b o e => Heap.get?_push_of_some _ e
  refine ⟨(s.heap.push { cls := .type "range", data := .fields #[.int lo t, .int hi u, .int 1 v] }).objs.size, [(s.heap.push { cls := .type "range", data := .fields #[.int lo t, .int hi u, .int 1 v] }).objs.size], _, _, H, rfl,
    I1.kept (t' := tk) fun b o e => Heap.get?_push_of_some _ e, turn_range _ lo (hi - lo).toNat, ?_, fun b hb => ?_, q⟩
  · have e1 : lo + ((0 : Nat) : Int) * 1 = lo := by simp
    have e2 : (((hi - lo).toNat : Nat) : Int) - ((0 : Nat) : Int) = Builtin.Range.rangeSize lo hi 1 := by rw [rangeSize_one]; split <;> omega
    show IsRangeIter _ _ (lo + ((0 : Nat) : Int) * 1) ((((hi - lo).toNat : Nat) : Int) - ((0 : Nat) : Int)) 1
    rw [e1, e2]
    exact Heap.get?_push_size _ rfl
  · have e : b = (s.heap.push { cls := .type "range", data := .fields #[.int lo t, .int hi u, .int 1 v] }).objs.size := by simpa using hb
    subst e
    exact I1.fpOk (Nat.le_refl _) (I1.hok.fresh (Nat.le_refl _))
def iRng1 (ta : TA) : TI := fun σ H R => ta σ H fun vs H1 => ∃ j : Int, vs = [.int j] ∧ -(2 ^ 62) ≤ j ∧ j < 2 ^ 62 ∧ R (Itr 0 j.toNat) H1
theorem pi_range1 {a : Expr} {ta : TA} {p pos : Pos} (hg : Gl X "range") (hm : X.mg "range" = none) (ha : PA X [a] ta) (hs : starEach [a] X.env = [(false, eval a X.env)] := by rfl) : PI X tg (.Call (.Name "range" p) [a] [] pos) (iRng1 ta) := by
  intro pins s σ H R I h
  refine Call_ (ld_blt I hg hm boot_range (PyProof.Rows.callWith_type1 (thn (ha pos pins s σ H _ I h) fun us s1 ⟨vs, H1, I1, r1, q1⟩ => ?_) hs rfl))
  obtain ⟨j, e, q1, q2, q⟩ := q1
  subst e
  cases r1 with
  | cons r rr =>
    cases rr
    obtain ⟨t, rfl⟩ := r
    exact call_range_1 (range_it I1 (by omega) (by omega) q1 q2 (by simpa using q))
def tFor (wi : TI) (g : TG) (tb : TS) : TS := fun D σ H => wi σ H fun J H1 => ∃ W : Nat → Nat → St → Hp → Prop, (∃ m, W 0 m σ H1) ∧ ∀ i m σ H, W i m σ H →
  (J.stop i H ∧ D.nx σ H) ∨ (J.go i H ∧ ∃ N : St → Hp → Prop, (∀ σ' H', N σ' H' → ∃ m', m' < m ∧ W (i + 1) m' σ' H') ∧ ∀ x H', J.yld i H x H' → g x σ H' fun σ2 H2 => tb { D with nx := N, ct := N, bk := D.nx } σ2 H2)
def pinsAt (fp : List Addr) (h : Heap) : List (Addr × Obj) := fp.filterMap fun b => (h.get? b).map fun o => (b, o)
theorem mem_pinsAt {fp : List Addr} {h : Heap} {b : Addr} {o : Obj} (hb : b ∈ fp) (e : h.get? b = some o) : (b, o) ∈ pinsAt fp h := List.mem_filterMap.mpr ⟨b, hb, by rw [e]; rfl⟩
theorem of_pinsAt {fp : List Addr} {h : Heap} {p : Addr × Obj} (hp : p ∈ pinsAt fp h) : p.1 ∈ fp ∧ h.get? p.1 = some p.2 := by
  obtain ⟨b, hb, e⟩ := List.mem_filterMap.mp hp
  cases q : h.get? b with
  | none => rw [q] at e; cases e
  | some o =>
    rw [q] at e
    have e' : (b, o) = p := Option.some.inj e
    subst e'
    exact ⟨hb, q⟩
theorem Inv.pinned {pins : List (Addr × Obj)} {σ : St} {H : Hp} {s : Shared} {fp : List Addr} (I : Inv X pins σ H s) (hf : ∀ b ∈ fp, FpOk X pins H b) (ho : ∀ b ∈ fp, ∃ o, s.heap.get? b = some o ∧ ∀ v, o.data ≠ .cell v) : Inv X (pins ++ pinsAt fp s.heap) σ H s :=
  I.pins_of fun p hp => (List.mem_append.mp hp).elim (fun z => I.pin p (List.mem_append_right _ z)) fun z => by
    obtain ⟨hb, e⟩ := of_pinsAt z
    obtain ⟨f0, f1, f2, _⟩ := hf p.1 hb
    obtain ⟨o, e', d⟩ := ho p.1 hb
    rw [e] at e'; cases e'
    exact ⟨e, f0, f1, f2, d⟩
theorem Inv.unpinned {pins pl : List (Addr × Obj)} {σ : St} {H : Hp} {s : Shared} (I : Inv X (pins ++ pl) σ H s) : Inv X pins σ H s := I.pins_of fun p hp => I.pin p (List.mem_append_right _ (List.mem_append_left _ hp))
theorem ps_for {iter : Expr} {body : List Stmt} {wi : TI} {g : TG} {tb : TS} {pos : Pos} (hp : PassesOwn (model X.prog X.w) X.A X.env X.xe) (hc : X.calm = true) (hi : PI X tg iter wi) (hg : PG X tg g) (hb : PSs X body tb)
    (hs : ∀ x, foldedSetIterable iter X.env x = pure x := by intro _; rfl) : PS X (.For tg iter body [] pos) (tFor wi g tb) := by
  intro pins s σ H D I h
  refine wpAny_For (thn (hi pins s σ H _ I h) fun v s1 h1 => thn h1 fun itv s2 h2 => ?_) hs
  obtain ⟨it, fp, tn, J, H2, e, I2, T, st2, f2, W, ⟨m0, w0⟩, turn⟩ := h2
  subst e
  have stat : ∀ {H' : Hp}, (∀ b ∈ fp, H' b = none) → ∀ b ∈ fp, FpOk X pins H' b := fun hn b hb => ⟨hn b hb, (f2 b hb).2⟩
  refine codeAny_forLoop_any (fun n s' => ∃ i σ' H', Inv X pins σ' H' s' ∧ tn i s'.heap ∧ (∀ b ∈ fp, H' b = none) ∧ W i n σ' H') ?_ m0 ⟨0, σ, H2, I2, st2, fun b hb => (f2 b hb).1, w0⟩
  rintro n s3 ⟨i, σ3, H3, I3, st3, fr3, w3⟩
  rcases turn i n σ3 H3 w3 with ⟨stop, qn⟩ | ⟨go, N, hN, step⟩
  · refine wpAny_passesOwn hp (thn (T.done X rfl rfl rfl hc i pins s3 σ3 H3 X.xe I3 (stat fr3) st3 stop) fun r s4 ⟨hr, I4⟩ => ?_)
    subst hr
    exact wpAny_execs_nil ⟨σ3, H3, I4, qn⟩
  · refine wpAny_passesOwn hp (thn (T.item X rfl rfl rfl hc i pins s3 σ3 H3 X.xe I3 (stat fr3) st3 go) fun r s4 ⟨u, hr, h4⟩ => ?_)
    subst hr
    refine wpAny_passesOwn hp (thn h4 fun _ s5 ⟨x, H5, I5, r5, y5, st5, fr5⟩ => ?_)
    have I5' := I5.pinned (stat fr5) (T.obj _ _ st5)
    refine wpAny_passesOwn hp (thn (hg _ s5 σ3 H5 x u _ I5' r5 (step x H5 y5)) fun _ s6 ⟨σ6, H6, I6, q6⟩ => ?_)
    refine wpAny_passesOwn hp (thn (hb _ s6 σ6 H6 _ I6 q6) fun f s7 q7 => ?_)
    have again : ∀ {σ7 : St} {H7 : Hp}, Inv X (pins ++ pinsAt fp s5.heap) σ7 H7 s7 → N σ7 H7 → ∃ m, m < n ∧ ∃ i σ' H', Inv X pins σ' H' s7 ∧ tn i s7.heap ∧ (∀ b ∈ fp, H' b = none) ∧ W i m σ' H' := fun {σ7 H7} I7 n7 => by
      obtain ⟨m', hm, w7⟩ := hN σ7 H7 n7
      refine ⟨m', hm, i + 1, σ7, H7, I7.unpinned, T.keep _ _ _ st5 fun b hb o e => (I7.pin (b, o) (List.mem_append_right _ (List.mem_append_right _ (mem_pinsAt hb e)))).1, fun b hb => ?_, w7⟩
      obtain ⟨o, e, d⟩ := T.obj _ _ st5 b hb
      exact (I7.pin (b, o) (List.mem_append_right _ (List.mem_append_right _ (mem_pinsAt hb e)))).2.1
    cases f with
    | next => obtain ⟨σ7, H7, I7, n7⟩ := q7; exact again I7 n7
    | cont => obtain ⟨σ7, H7, I7, n7⟩ := q7; exact again I7 n7
    | brk => obtain ⟨σ7, H7, I7, q7⟩ := q7; exact ⟨σ7, H7, I7.unpinned, q7⟩
    | ret v => obtain ⟨x7, σ7, H7, I7, r7, q7⟩ := q7; exact ⟨x7, σ7, H7, I7.unpinned, r7, q7⟩
end
theorem for_list {K : PySem.W.Frag} {a : Addr} {xs : List V} {g : TG} {tb : TS} {D : Ends} {σ : St} {H : Hp} (Pv : Nat → St → Hp → Prop) (h0 : Pv 0 σ H) (hl : ∀ i σ H, i ≤ xs.length → Pv i σ H → SqL K H a xs)
    (hs : ∀ i x σ H, xs[i]? = some x → Pv i σ H → g x σ H fun σ2 H2 => tb { D with nx := Pv (i + 1), ct := Pv (i + 1), bk := D.nx } σ2 H2) (hd : ∀ σ H, Pv xs.length σ H → D.nx σ H) :
    ∃ W : Nat → Nat → St → Hp → Prop, (∃ m, W 0 m σ H) ∧ ∀ i m σ H, W i m σ H →
      ((Itl K a).stop i H ∧ D.nx σ H) ∨ ((Itl K a).go i H ∧ ∃ N : St → Hp → Prop, (∀ σ' H', N σ' H' → ∃ m', m' < m ∧ W (i + 1) m' σ' H') ∧ ∀ x H', (Itl K a).yld i H x H' → g x σ H' fun σ2 H2 => tb { D with nx := N, ct := N, bk := D.nx } σ2 H2) := by
  refine ⟨fun i m σ H => m = xs.length - i ∧ i ≤ xs.length ∧ Pv i σ H, ⟨xs.length, by simp, Nat.zero_le _, h0⟩, ?_⟩
  rintro i m σ H ⟨rfl, hi, p⟩
  have q := hl i σ H hi p
  by_cases hlt : i < xs.length
  · refine .inr ⟨⟨xs, xs[i], q, by simp [hlt]⟩, Pv (i + 1), fun σ' H' p' => ⟨xs.length - (i + 1), by omega, rfl, hlt, p'⟩, fun x H' y => ?_⟩
    obtain ⟨e, y⟩ := y
    subst e
    exact hs i x σ _ (y xs q) p
  · have e : i = xs.length := by omega
    subst e
    exact .inl ⟨⟨xs, q, Nat.le_refl _⟩, hd σ H p⟩
theorem for_range {lo : Int} {n : Nat} {g : TG} {tb : TS} {D : Ends} {σ : St} {H : Hp} (Pv : Nat → St → Hp → Prop) (h0 : Pv 0 σ H)
    (hs : ∀ i σ H, i < n → Pv i σ H → g (.int (lo + i)) σ H fun σ2 H2 => tb { D with nx := Pv (i + 1), ct := Pv (i + 1), bk := D.nx } σ2 H2) (hd : ∀ σ H, Pv n σ H → D.nx σ H) :
    ∃ W : Nat → Nat → St → Hp → Prop, (∃ m, W 0 m σ H) ∧ ∀ i m σ H, W i m σ H →
      ((Itr lo n).stop i H ∧ D.nx σ H) ∨ ((Itr lo n).go i H ∧ ∃ N : St → Hp → Prop, (∀ σ' H', N σ' H' → ∃ m', m' < m ∧ W (i + 1) m' σ' H') ∧ ∀ x H', (Itr lo n).yld i H x H' → g x σ H' fun σ2 H2 => tb { D with nx := N, ct := N, bk := D.nx } σ2 H2) := by
  refine ⟨fun i m σ H => m = n - i ∧ i ≤ n ∧ Pv i σ H, ⟨n, by simp, Nat.zero_le _, h0⟩, ?_⟩
  rintro i m σ H ⟨rfl, hi, p⟩
  by_cases hlt : i < n
  · refine .inr ⟨hlt, Pv (i + 1), fun σ' H' p' => ⟨n - (i + 1), by omega, rfl, hlt, p'⟩, fun x H' y => ?_⟩
    obtain ⟨e, y⟩ := y
    subst e y
    exact hs i σ _ hlt p
  · have e : i = n := by omega
    subst e
    exact .inl ⟨Nat.le_refl _, hd σ H p⟩
theorem while_by {c : TT} {tb : TS} {D : Ends} {σ : St} {H : Hp} (Pv : St → Hp → Prop) (μ : St → Hp → Nat) (h0 : Pv σ H)
    (hs : ∀ σ H, Pv σ H → c σ H fun b H1 => if b = true then tb { D with nx := fun σ' H' => Pv σ' H' ∧ μ σ' H' < μ σ H, ct := fun σ' H' => Pv σ' H' ∧ μ σ' H' < μ σ H, bk := D.nx } σ H1 else D.nx σ H1)
    (mono : ∀ σ H Q Q', (∀ b H1, Q b H1 → Q' b H1) → c σ H Q → c σ H Q') : tWhile c tb D σ H := by
  refine ⟨fun m σ H => m = μ σ H ∧ Pv σ H, ⟨_, rfl, h0⟩, ?_⟩
  rintro m σ H ⟨rfl, p⟩
  refine mono σ H _ _ (fun b H1 q => ?_) (hs σ H p)
  cases b with
  | true => exact ⟨_, fun σ' H' ⟨p', l⟩ => ⟨_, l, rfl, p'⟩, q⟩
  | false => exact q
end L2
namespace L2
open PySem PySem.Spec PyProof.Rows
abbrev R2 := V → V → Hp → VK → Prop
def OpR (X : Cx) (f : Value → Value → Sem Value) (r : R2) : Prop :=
  ∀ (pins : List (Addr × Obj)) (s : Shared) (σ : St) (H : Hp) (x y : V) (v u : Value) (Q : VK), Inv X pins σ H s → RelV x v → RelV y u → r x y H Q →
    wpAny (model X.prog X.w) X.A (f v u) (EP X pins σ Q) X.xe s
def UnR (X : Cx) (f : Value → Sem Value) (r : V → Hp → VK → Prop) : Prop :=
  ∀ (pins : List (Addr × Obj)) (s : Shared) (σ : St) (H : Hp) (x : V) (v : Value) (Q : VK), Inv X pins σ H s → RelV x v → r x H Q →
    wpAny (model X.prog X.w) X.A (f v) (EP X pins σ Q) X.xe s
def CallR (X : Cx) (f : Value) (r : List V → Hp → VK → Prop) : Prop :=
  ∀ (pins : List (Addr × Obj)) (s : Shared) (σ : St) (H : Hp) (xs : List V) (us : List Value) (Q : VK), Inv X pins σ H s → Vals xs us → r xs H Q →
    wpAny (model X.prog X.w) X.A (call f us) (EP X pins σ Q) X.xe s
def tOp (r : R2) (ta tb : TE) : TE := fun σ H Q => ta σ H fun x H1 => tb σ H1 fun y H2 => r x y H2 Q
def tUn (r : V → Hp → VK → Prop) (ta : TE) : TE := fun σ H Q => ta σ H fun x H1 => r x H1 Q
def rI (C : Int → Int → Prop) (g : Int → Int → V) : R2 := fun x y H Q => ∃ i j, x = .int i ∧ y = .int j ∧ C i j ∧ Q (g i j) H
def rI0 (g : Int → Int → V) : R2 := fun x y H Q => ∃ i j, x = .int i ∧ y = .int j ∧ Q (g i j) H
def rU (g : Int → V) : V → Hp → VK → Prop := fun x H Q => ∃ i, x = .int i ∧ Q (g i) H
section
variable {X : Cx} {a b c : Expr} {ta tb tc : TE} {pos : Pos}
theorem binT (ha : PE X a ta) (hb : PE X b tb) {pins : List (Addr × Obj)} {s : Shared} {σ : St} {H : Hp} {R : V → V → Hp → Prop} (I : Inv X pins σ H s)
    (h : ta σ H fun x H1 => tb σ H1 fun y H2 => R x y H2) {Q : Value → Shared → Prop} {f : Value → Value → Sem Value}
    (hf : ∀ v u s2 x y H2, Inv X pins σ H2 s2 → RelV x v → RelV y u → R x y H2 → wpAny (model X.prog X.w) X.A (f v u) Q X.xe s2) :
    wpAny (model X.prog X.w) X.A (eval a X.env) (fun v s₁ => wpAny (model X.prog X.w) X.A (eval b X.env) (fun u s₂ => wpAny (model X.prog X.w) X.A (f v u) Q X.xe s₂) X.xe s₁) X.xe s := by
  refine thn (ha pins s σ H _ I h) fun v s1 ⟨x, H1, I1, r1, q1⟩ => ?_
  refine thn (hb pins s1 σ H1 _ I1 q1) fun u s2 ⟨y, H2, I2, r2, q2⟩ => ?_
  exact hf v u s2 x y H2 I2 r1 r2 q2
theorem pe_op {op : Operator} {r : R2} (ho : OpR X (binaryOp op) r) (ha : PE X a ta) (hb : PE X b tb) : PE X (.BinOp a op b pos) (tOp r ta tb) := by
  intro pins s σ H Q I h
  exact wpAny_BinOp (binT ha hb I h fun v u s2 x y H2 I2 rx ry q => ho pins s2 σ H2 x y v u Q I2 rx ry q)
theorem pe_un {op : UnaryOp} {r : V → Hp → VK → Prop} (ho : UnR X (unaryOp op) r) (ha : PE X a ta) : PE X (.UnaryOp op a pos) (tUn r ta) := by
  intro pins s σ H Q I h
  exact UnaryOp_ (thn (ha pins s σ H _ I h) fun v s1 ⟨x, H1, I1, r1, q1⟩ => ho pins s1 σ H1 x v Q I1 r1 q1)
theorem opI {f : Value → Value → Sem Value} {C : Int → Int → Prop} {g : Int → Int → Int}
    (rule : ∀ (i j : Int) (t u : Tok) (s : Shared) (Q : Value → Shared → Prop) (E : Value → Shared → Prop), C i j → Q (.int (g i j) s.toks) { s with toks := s.toks + 1 } → wpAny (model X.prog X.w) X.A (f (.int i t) (.int j u)) Q E s) :
    OpR X f (rI C fun i j => .int (g i j)) := by
  intro pins s σ H x y v u Q I rx ry h
  obtain ⟨i, j, rfl, rfl, hc, q⟩ := h
  obtain ⟨t, rfl⟩ := rx
  obtain ⟨t', rfl⟩ := ry
  exact rule i j t t' s _ _ hc ⟨.int (g i j), H, I.tok _, ⟨_, rfl⟩, q⟩
theorem opI0 {f : Value → Value → Sem Value} {g : Int → Int → Int}
    (rule : ∀ (i j : Int) (t u : Tok) (s : Shared) (Q : Value → Shared → Prop) (E : Value → Shared → Prop), Q (.int (g i j) s.toks) { s with toks := s.toks + 1 } → wpAny (model X.prog X.w) X.A (f (.int i t) (.int j u)) Q E s) :
    OpR X f (rI0 fun i j => .int (g i j)) := by
  intro pins s σ H x y v u Q I rx ry h
  obtain ⟨i, j, rfl, rfl, q⟩ := h
  obtain ⟨t, rfl⟩ := rx
  obtain ⟨t', rfl⟩ := ry
  exact rule i j t t' s _ _ ⟨.int (g i j), H, I.tok _, ⟨_, rfl⟩, q⟩
theorem opB0 {f : Value → Value → Sem Value} {g : Int → Int → Bool}
    (rule : ∀ (i j : Int) (t u : Tok) (s : Shared) (Q : Value → Shared → Prop) (E : Value → Shared → Prop), Q (.bool (g i j)) s → wpAny (model X.prog X.w) X.A (f (.int i t) (.int j u)) Q E s) :
    OpR X f (rI0 fun i j => .bl (g i j)) := by
  intro pins s σ H x y v u Q I rx ry h
  obtain ⟨i, j, rfl, rfl, q⟩ := h
  obtain ⟨t, rfl⟩ := rx
  obtain ⟨t', rfl⟩ := ry
  exact rule i j t t' s _ _ ⟨.bl (g i j), H, I, rfl, q⟩
def CDiv (i j : Int) : Prop := 0 < j ∧ j < 1073741824
def CPow (i j : Int) : Prop := 0 ≤ j ∧ j ≤ 1000000 ∧ i.natAbs < 2 ^ 64
def CMul (i j : Int) : Prop := (-(2 ^ 64) < i ∧ i < 2 ^ 64) ∨ (-(2 ^ 64) < j ∧ j < 2 ^ 64)
theorem CMul.ok {i j : Int} (h : CMul i j) : IntMulOk i j := by
  rcases h with ⟨h1, h2⟩ | ⟨h1, h2⟩
  · exact .of_left (intBits_le_64 h1 h2)
  · exact .of_right (intBits_le_64 h1 h2)
theorem op_add : OpR X (binaryOp .Add) (rI0 fun i j => .int (i + j)) := opI0 fun _ _ _ _ _ _ _ q => add_int q
theorem op_sub : OpR X (binaryOp .Sub) (rI0 fun i j => .int (i - j)) := opI0 fun _ _ _ _ _ _ _ q => sub_int q
theorem op_mul : OpR X (binaryOp .Mult) (rI CMul fun i j => .int (i * j)) := opI fun _ _ _ _ _ _ _ hc q => mul_int q hc.ok
theorem op_fdiv : OpR X (binaryOp .FloorDiv) (rI CDiv fun i j => .int (i / j)) := opI fun i j _ _ _ _ _ hc q => by
  have h1 : (0 : Int) < j := hc.1
  have h2 : j < 1073741824 := hc.2
  exact floordiv_int (by omega) (by rw [Int.fdiv_eq_ediv_of_nonneg i (by omega)]; exact q) (.inl (PyProof.noPylong_small (by omega)))
theorem op_mod : OpR X (binaryOp .Mod) (rI (fun _ j => 0 < j) fun i j => .int (i % j)) := opI fun i j _ _ _ _ _ hc q => by
  have h1 : (0 : Int) < j := hc
  exact mod_int' (by omega) (by rw [Int.fmod_eq_emod_of_nonneg i (by omega)]; exact q)
theorem op_pow : OpR X (binaryOp .Pow) (rI CPow fun i j => .int (i ^ j.toNat)) := opI fun _ _ _ _ _ _ _ hc q => pow_int_small hc.1 hc.2.1 hc.2.2 q
theorem unI {f : Value → Sem Value} {g : Int → Int}
    (rule : ∀ (i : Int) (t : Tok) (s : Shared) (Q : Value → Shared → Prop) (E : Value → Shared → Prop), Q (.int (g i) s.toks) { s with toks := s.toks + 1 } → wpAny (model X.prog X.w) X.A (f (.int i t)) Q E s) :
    UnR X f (rU fun i => .int (g i)) := by
  intro pins s σ H x v Q I rx h
  obtain ⟨i, rfl, q⟩ := h
  obtain ⟨t, rfl⟩ := rx
  exact rule i t s _ _ ⟨.int (g i), H, I.tok _, ⟨_, rfl⟩, q⟩
theorem un_neg : UnR X (unaryOp .USub) (rU fun i => .int (-i)) := unI fun _ _ _ _ _ q => neg_int q
end
def scal : V → V → Bool
  | .non, .non => true | .non, .int _ => true | .int _, .non => true | .non, .bl _ => true | .bl _, .non => true | .non, .str _ => true | .str _, .non => true
  | .int _, .int _ => true | .bl _, .bl _ => true | .str _, .str _ => true | .byt _, .byt _ => true
  | .int _, .str _ => true | .str _, .int _ => true | .bl _, .str _ => true | .str _, .bl _ => true
  | _, _ => false
def rEq : R2 := fun x y H Q => scal x y = true ∧ Q (.bl (decide (x = y))) H
def rNe : R2 := fun x y H Q => scal x y = true ∧ Q (.bl (!decide (x = y))) H
theorem dec_int {i j : Int} : decide (V.int i = V.int j) = (i == j) := by
  rw [Bool.eq_iff_iff]
  simp
theorem dec_bl {i j : Bool} : decide (V.bl i = V.bl j) = (i == j) := by
  rw [Bool.eq_iff_iff]
  simp
theorem dec_str {i j : Str} : decide (V.str i = V.str j) = (i == j) := by
  rw [Bool.eq_iff_iff]
  simp
theorem dec_byt {i j : Array UInt8} : decide (V.byt i = V.byt j) = (i.toList == j.toList) := by
  rw [Bool.eq_iff_iff]
  cases i
  cases j
  simp
section
variable {X : Cx} {a b c : Expr} {ta tb tc : TE} {pos : Pos}
theorem fin_bl {pins : List (Addr × Obj)} {σ : St} {H : Hp} {s : Shared} {Q : VK} {k k' : Bool} (I : Inv X pins σ H s) (q : Q (.bl k) H) (e : k = k') : EP X pins σ Q (.bool k') s := by
  subst e
  exact ⟨.bl k, H, I, rfl, q⟩
theorem op_eq : OpR X (compareOp .Eq) rEq := by
  intro pins s σ H x y v u Q I rx ry h
  obtain ⟨hs, q⟩ := h
  cases x with
  | non =>
    cases rx
    cases y with
    | non => cases ry; exact PySem.EqNone.eq_none_none (fin_bl I q (by simp))
    | bl j => cases ry; exact PySem.EqNone.eq_none_bool (fin_bl I q (by simp))
    | int j => obtain ⟨t', rfl⟩ := ry; exact PySem.EqNone.eq_none_int (fin_bl I q (by simp))
    | str j => obtain ⟨t', rfl⟩ := ry; exact PySem.EqNone.eq_none_str (fin_bl I q (by simp))
    | _ => exact absurd (show false = true from hs) Bool.false_ne_true
  | bl i =>
    cases rx
    cases y with
    | non => cases ry; exact PySem.EqNone.eq_bool_none (fin_bl I q (by simp))
    | bl j => cases ry; exact eq_bool (fin_bl I q dec_bl)
    | str j => obtain ⟨t', rfl⟩ := ry; exact PySem.EqMixed.eq_bool_str (fin_bl I q (by simp))
    | _ => exact absurd (show false = true from hs) Bool.false_ne_true
  | int i =>
    obtain ⟨t, rfl⟩ := rx
    cases y with
    | non => cases ry; exact PySem.EqNone.eq_int_none (fin_bl I q (by simp))
    | int j => obtain ⟨t', rfl⟩ := ry; exact eq_int (fin_bl I q dec_int)
    | str j => obtain ⟨t', rfl⟩ := ry; exact PySem.EqMixed.eq_int_str (fin_bl I q (by simp))
    | _ => exact absurd (show false = true from hs) Bool.false_ne_true
  | str i =>
    obtain ⟨t, rfl⟩ := rx
    cases y with
    | non => cases ry; exact PySem.EqNone.eq_str_none (fin_bl I q (by simp))
    | bl j => cases ry; exact PySem.EqMixed.eq_str_bool (fin_bl I q (by simp))
    | int j => obtain ⟨t', rfl⟩ := ry; exact PySem.EqMixed.eq_str_int (fin_bl I q (by simp))
    | str j => obtain ⟨t', rfl⟩ := ry; exact eq_str (fin_bl I q dec_str)
    | _ => exact absurd (show false = true from hs) Bool.false_ne_true
  | byt i =>
    obtain ⟨t, rfl⟩ := rx
    cases y with
    | byt j => obtain ⟨t', rfl⟩ := ry; exact PySem.W.eq_bytes (fin_bl I q dec_byt)
    | _ => exact absurd (show false = true from hs) Bool.false_ne_true
  | _ => cases y <;> exact absurd (show false = true from hs) Bool.false_ne_true
theorem op_ne : OpR X (compareOp .NotEq) rNe := by
  intro pins s σ H x y v u Q I rx ry h
  obtain ⟨hs, q⟩ := h
  cases x with
  | non =>
    cases rx
    cases y with
    | non => cases ry; exact PySem.EqNone.ne_none_none (fin_bl I q (by simp))
    | bl j => cases ry; exact PySem.EqNone.ne_none_bool (fin_bl I q (by simp))
    | int j => obtain ⟨t', rfl⟩ := ry; exact PySem.EqNone.ne_none_int (fin_bl I q (by simp))
    | str j => obtain ⟨t', rfl⟩ := ry; exact PySem.EqNone.ne_none_str (fin_bl I q (by simp))
    | _ => exact absurd (show false = true from hs) Bool.false_ne_true
  | bl i =>
    cases rx
    cases y with
    | non => cases ry; exact PySem.EqNone.ne_bool_none (fin_bl I q (by simp))
    | bl j => cases ry; exact ne_bool (fin_bl I q (congrArg not dec_bl))
    | str j => obtain ⟨t', rfl⟩ := ry; exact PySem.EqMixed.ne_bool_str (fin_bl I q (by simp))
    | _ => exact absurd (show false = true from hs) Bool.false_ne_true
  | int i =>
    obtain ⟨t, rfl⟩ := rx
    cases y with
    | non => cases ry; exact PySem.EqNone.ne_int_none (fin_bl I q (by simp))
    | int j => obtain ⟨t', rfl⟩ := ry; exact ne_int (fin_bl I q (congrArg not dec_int))
    | str j => obtain ⟨t', rfl⟩ := ry; exact PySem.EqMixed.ne_int_str (fin_bl I q (by simp))
    | _ => exact absurd (show false = true from hs) Bool.false_ne_true
  | str i =>
    obtain ⟨t, rfl⟩ := rx
    cases y with
    | non => cases ry; exact PySem.EqNone.ne_str_none (fin_bl I q (by simp))
    | bl j => cases ry; exact PySem.EqMixed.ne_str_bool (fin_bl I q (by simp))
    | int j => obtain ⟨t', rfl⟩ := ry; exact PySem.EqMixed.ne_str_int (fin_bl I q (by simp))
    | str j => obtain ⟨t', rfl⟩ := ry; exact ne_str (fin_bl I q (congrArg not dec_str))
    | _ => exact absurd (show false = true from hs) Bool.false_ne_true
  | byt i =>
    obtain ⟨t, rfl⟩ := rx
    cases y with
    | byt j => obtain ⟨t', rfl⟩ := ry; exact PySem.W.ne_bytes (fin_bl I q (congrArg not dec_byt))
    | _ => exact absurd (show false = true from hs) Bool.false_ne_true
  | _ => cases y <;> exact absurd (show false = true from hs) Bool.false_ne_true
theorem op_lt : OpR X (compareOp .Lt) (rI0 fun i j => .bl (decide (i < j))) := opB0 fun _ _ _ _ _ _ _ q => lt_int q
theorem op_gt : OpR X (compareOp .Gt) (rI0 fun i j => .bl (decide (j < i))) := opB0 fun _ _ _ _ _ _ _ q => gt_int q
theorem op_ge : OpR X (compareOp .GtE) (rI0 fun i j => .bl (decide (j ≤ i))) := opB0 fun _ _ _ _ _ _ _ q => ge_int q
theorem nomark (b : Expr) {op : CmpOp} (h : op ≠ .In := by decide) (h2 : op ≠ .NotIn := by decide) : behindInMarks op b = false := by
  have e1 : (op == CmpOp.In) = false := by cases op <;> first | rfl | exact absurd rfl h
  have e2 : (op == CmpOp.NotIn) = false := by cases op <;> first | rfl | exact absurd rfl h2
  cases b <;> simp [behindInMarks, e1, e2]
def tTest (t : TE) : TT := fun σ H Q => t σ H fun x H' => ∃ k, x = .bl k ∧ Q k H'
theorem pt_cmpR {op : CmpOp} {r : R2} (ho : OpR X (compareOp op) r) (ha : PE X a ta) (hb : PE X b tb) (hm : behindInMarks op b = false) : PT X (.Compare a [op] [b] pos) (tTest (tOp r ta tb)) := by
  intro pins s σ H Q I h
  refine wpAny_isTrue_Compare1 (thn (ha pins s σ H _ I h) fun v s1 ⟨x, H1, I1, r1, q1⟩ => thn (hb pins s1 σ H1 _ I1 q1) fun u s2 ⟨y, H2, I2, r2, q2⟩ =>
    thn (ho pins s2 σ H2 x y v u _ I2 r1 r2 q2) fun c s3 ⟨z, H3, I3, r3, k, e, q3⟩ => ?_) hm
  subst e
  cases r3
  exact wpAny_truthy_bool ⟨H3, I3, q3⟩
theorem line63 : (sizeLine : Nat) < 2 ^ 63 := by rw [sizeLine_eq]; decide
theorem vals1 {x : V} {us : List Value} (r : Vals [x] us) : ∃ u, us = [u] ∧ RelV x u := by
  cases r with
  | cons r1 r2 => cases r2; exact ⟨_, rfl, r1⟩
theorem vals2 {x y : V} {us : List Value} (r : Vals [x, y] us) : ∃ u w', us = [u, w'] ∧ RelV x u ∧ RelV y w' := by
  cases r with
  | cons r1 r2 =>
    cases r2 with
    | cons r3 r4 => cases r4; exact ⟨_, _, rfl, r1, r3⟩
theorem call_max2 (hc : X.calm = true) : CallR X (.builtin "max") (fun xs H Q => ∃ i j, xs = [.int i, .int j] ∧ Q (.int (if j > i then j else i)) H) := by
  intro pins s σ H xs us Q I r h
  obtain ⟨i, j, rfl, q⟩ := h
  obtain ⟨u, w', rfl, ⟨t, rfl⟩, ⟨t', rfl⟩⟩ := vals2 r
  refine max_two_ints (I.ok.hd hc) fun h' tk k => ⟨_, H, I.kept k, ?_, q⟩
  by_cases hj : j > i
  · rw [if_pos hj, if_pos hj]; exact ⟨_, rfl⟩
  · rw [if_neg hj, if_neg hj]; exact ⟨_, rfl⟩
theorem call_min2 (hc : X.calm = true) : CallR X (.builtin "min") (fun xs H Q => ∃ i j, xs = [.int i, .int j] ∧ Q (.int (if j < i then j else i)) H) := by
  intro pins s σ H xs us Q I r h
  obtain ⟨i, j, rfl, q⟩ := h
  obtain ⟨u, w', rfl, ⟨t, rfl⟩, ⟨t', rfl⟩⟩ := vals2 r
  refine min_two_ints (I.ok.hd hc) fun h' tk k => ⟨_, H, I.kept k, ?_, q⟩
  by_cases hj : j < i
  · rw [if_pos hj, if_pos hj]; exact ⟨_, rfl⟩
  · rw [if_neg hj, if_neg hj]; exact ⟨_, rfl⟩
end
end L2
namespace L2
open PySem PySem.Spec PyProof.Rows
structure ObjM (h : Heap) (x dx C : Addr) (mA : Str → Option Value) : Prop where
  obj : h.get? x = some (PySem.W.instObj C dx)
  ns : h.Ns1 dx mA
  ne : dx ≠ x
theorem lookIn_ns {h : Heap} {dx : Addr} {mA : Str → Option Value} (n : h.Ns1 dx mA) : ∃ od, h.get? dx = some od ∧ ∀ name, PySem.W.lookIn name od = some (mA name) := by
  obtain ⟨o, es, ep, ho, hd, hk, _, hm⟩ := n
  refine ⟨o, ho, fun name => ?_⟩
  have e := hm name
  unfold nsFind findBy at e
  rw [← Array.find?_toList] at e
  unfold PySem.W.lookIn
  rw [hd]
  dsimp only
  split
  · rename_i y q
    rw [q] at e
    exact congrArg some e
  · rename_i q
    rw [q] at e
    have a : es.toList.any (·.refKey) = false := by
      rw [List.any_eq_false]
      intro y hy
      obtain ⟨z, t, hkey⟩ := hk y (Array.mem_toList_iff.mp hy)
      simp [DictEntry.refKey, hkey]
    have a' : ¬ es.toList.any (·.refKey) = true := by rw [a]; exact Bool.false_ne_true
    rw [if_neg a']
    exact congrArg some e
theorem ObjM.look {h : Heap} {x dx C : Addr} {mA : Str → Option Value} (I : ObjM h x dx C mA) : ∃ od, PySem.W.InstAt h x (PySem.W.instObj C dx) C (some od) ∧ ∀ name, PySem.W.lookIn name od = some (mA name) :=
  let ⟨od, ho, hl⟩ := lookIn_ns I.ns
  ⟨od, ⟨I.obj, rfl, rfl, ho⟩, hl⟩
section
variable {prog : Program} {w : World} {A : Around} {E : Value → Shared → Prop} {s : Shared} {K : PySem.W.Frag} {x dx C f : Addr} {mA : Str → Option Value} {name : Str} {v : Value}
end
section
variable {P : Program} {w : World} {H H' : Hp} {h h' : Heap} {a C dx : Addr} {fs fs' : List (Str × V)}
theorem ins_get (hok : HOk P w H h) (e : H a = some (.ins C dx fs)) : ∃ mA, ObjM h a dx C mA ∧ (∀ f, RelO (fs.lookup f) (mA f)) ∧ PySem.Within mA (fs.map (·.1)) ∧ fs.length ≤ 1000 ∧ H dx = some (.own a) := by
  obtain ⟨d, z, ne, ob, mA, n, r, q⟩ := (show ObjOk P w H h a (.ins C dx fs) from hok a _ e)
  exact ⟨mA, ⟨ob, n, ne⟩, r, q, z, d⟩
end
structure Cls (K : PySem.W.Frag) (C : Addr) : Prop where
  pg : PySem.W.plainGet K C Str.empty = true
  hd : PySem.W.hasDictIn K C = true
  po : PySem.W.plainOver K C = true
  sa : PySem.W.findIn K (.ref C) "__setattr__" = some (some (.builtin "object.__setattr__"))
theorem Cls.get {K : PySem.W.Frag} {C : Addr} (c : Cls K C) (f : Str) : PySem.W.plainGet K C f = true := c.pg
section
variable {X : Cx} {pins : List (Addr × Obj)} {σ : St} {H : Hp} {s : Shared} {a C dx : Addr} {fs : List (Str × V)} {f : Str} {v : V} {A : Around} {E : Value → Shared → Prop}
end
section
variable {X : Cx} {o e value : Expr} {f : Str} {pos pos' tpos : Pos} {ta tv : TE}
end
section
variable {X : Cx} {pins : List (Addr × Obj)} {σ : St} {H : Hp} {s : Shared} {A : Around} {E : Value → Shared → Prop} {Q : Value → Shared → Prop} {c : Value} {b : Bool}
inductive TyOf (K : PySem.W.Frag) (H : Hp) : V → Value → Prop where
  | non : TyOf K H .non (.type "NoneType")
  | bl (x : Bool) : TyOf K H (.bl x) (.type "bool")
  | int (i : Int) : TyOf K H (.int i) (.type "int")
  | str (x : Str) : TyOf K H (.str x) (.type "str")
  | flt (x : UInt64) : TyOf K H (.flt x) (.type "float")
  | lst {a : Addr} {xs : List V} (e : H a = some (.lst xs)) : TyOf K H (.ref a) (.type "list")
  | frz {a : Addr} {o : Obj} {xs : List V} (e : H a = some (.frz o (.lst xs))) : TyOf K H (.ref a) (.type "list")
  | tup {a : Addr} {xs : List V} (e : H a = some (.tup xs)) : TyOf K H (.ref a) (.type "tuple")
  | dK {a : Addr} {kvs : List (Key × V)} (e : H a = some (.dK kvs)) : TyOf K H (.ref a) (.type "dict")
  | dT {a : Addr} {kvs : List (List Key × V)} (e : H a = some (.dT kvs)) : TyOf K H (.ref a) (.type "dict")
  | ins {a C dx : Addr} {fs : List (Str × V)} (e : H a = some (.ins C dx fs)) (cl : Cls K C) (ha : PySem.W.findIn K (.ref C) "__class__" = some (some (.builtin "object.__class__")))
      (hn : PySem.W.specialIn K (.builtin "object.__class__") "__get__" = some (some (.builtin "getset_descriptor.__get__"))) (htk : PySem.W.takesIn K (.builtin "object.__class__") = some true)
      (hm : PySem.W.mroIn K C (.type "object") = some true) : TyOf K H (.ref a) (.ref C)
theorem isinst_ok {x : V} {u t : Value} (I : Inv X pins σ H s) (rx : RelV x u) (ty : TyOf X.K H x t) (e : PySem.W.kitOne X.K t c = some b) (h : ∀ tk, Q (.bool b) { s with toks := tk }) :
    wpAny (model X.prog X.w) A (call (.builtin "isinstance") [u, c]) Q E s := by
  cases ty with
  | non => cases (show u = Value.none from rx); exact PySem.W.kia_one PySem.W.kitx_none I.kIn True.intro e (fun z => nomatch z) h
  | bl y => cases (show u = Value.bool y from rx); exact PySem.W.kia_one PySem.W.kitx_bool I.kIn True.intro e (fun z => nomatch z) h
  | int i => obtain ⟨t, q⟩ := (show ∃ t, u = Value.int i t from rx); cases q; exact PySem.W.kia_one PySem.W.kitx_int I.kIn True.intro e (fun z => nomatch z) h
  | str y => obtain ⟨t, q⟩ := (show ∃ t, u = Value.str y t from rx); cases q; exact PySem.W.kia_one PySem.W.kitx_str I.kIn True.intro e (fun z => nomatch z) h
  | flt y => obtain ⟨t, q⟩ := (show ∃ t, u = Value.float y t from rx); cases q; exact PySem.W.kia_one PySem.W.kitx_float I.kIn True.intro e (fun z => nomatch z) h
  | @lst a xs ea =>
    cases (show u = Value.ref a from rx)
    obtain ⟨_, _, n, _, h1⟩ := (show ObjOk X.prog X.w H s.heap a (.lst xs) from I.hok a _ ea)
    exact PySem.W.kia_one PySem.W.kitx_list I.kIn ⟨_, h1, rfl⟩ e (fun z => nomatch z) h
  | @frz a ob xs ea =>
    cases (show u = Value.ref a from rx)
    obtain ⟨_, _, _, n, _, h1⟩ := (show ObjOk X.prog X.w H s.heap a (.frz ob (.lst xs)) from I.hok a _ ea)
    exact PySem.W.kia_one PySem.W.kitx_list I.kIn ⟨_, h1, rfl⟩ e (fun z => nomatch z) h
  | @tup a xs ea =>
    cases (show u = Value.ref a from rx)
    obtain ⟨_, _, _, p⟩ := (show ObjOk X.prog X.w H s.heap a (.tup xs) from I.hok a _ ea)
    obtain ⟨o, h1, h2, _⟩ := p
    exact PySem.W.kia_one PySem.W.kitx_tuple I.kIn ⟨o, h1, h2⟩ e (fun z => nomatch z) h
  | @dK a kvs ea =>
    cases (show u = Value.ref a from rx)
    obtain ⟨_, _, vs, _, p⟩ := (show ObjOk X.prog X.w H s.heap a (.dK kvs) from I.hok a _ ea)
    obtain ⟨o, es, ep, h1, h2, _⟩ := p
    exact PySem.W.kia_one PySem.W.kitx_dict I.kIn ⟨o, h1, h2.1⟩ e (fun z => nomatch z) h
  | @dT a kvs ea =>
    cases (show u = Value.ref a from rx)
    obtain ⟨_, _, xs, _, o, es, ep, h1, h2, _⟩ := (show ObjOk X.prog X.w H s.heap a (.dT kvs) from I.hok a _ ea)
    exact PySem.W.kia_one PySem.W.kitx_dict I.kIn ⟨o, h1, h2.1⟩ e (fun z => nomatch z) h
  | @ins a C dx fs ea cl ha hn htk hm =>
    cases (show u = Value.ref a from rx)
    obtain ⟨mA, O, _⟩ := ins_get I.hok ea
    obtain ⟨od, J, _⟩ := O.look
    exact PySem.W.kia_one (PySem.W.kitx_own (cl.get _) cl.hd ha hn htk hm) I.kIn J e (fun z => nomatch z) h
end
end L2
namespace L2
open PySem PySem.Spec PyProof.Rows
structure Room (k : Nat) (A : Around) : Prop where
  hd : A.handled = none
  dp : A.depth + 3 * k + 5 < recursionLimit
  un : A.units + 16 * k + 200 < cLine
  gd : A.guards = some []
theorem Room.mono {j k : Nat} {A : Around} (r : Room k A) (h : j ≤ k) : Room j A := ⟨r.hd, by have := r.dp; omega, by have := r.un; omega, r.gd⟩
theorem Room.deeper {k : Nat} {A : Around} (r : Room (k + 1) A) (env : Env) : Room k (A.deeper env) :=
  ⟨r.hd, by have := r.dp; show A.depth + 1 + 3 * k + 5 < _; omega, by have := r.un; show A.units + 3 + 16 * k + 200 < _; omega, r.gd⟩
theorem Room.depth {k : Nat} {A : Around} (r : Room k A) : A.depth < recursionLimit := by have := r.dp; omega
theorem Room.units {k : Nat} {A : Around} (r : Room k A) : A.units + 64 < cLine := by have := r.un; omega
def tNil : TA := fun _ H Q => Q [] H
def tCons (ta : TE) (tr : TA) : TA := fun σ H Q => ta σ H fun x H1 => tr σ H1 fun xs H2 => Q (x :: xs) H2
section
variable {X : Cx} {e : Expr} {es : List Expr} {te : TE} {t : TA} {pos : Pos}
theorem pa_nil : PA X [] tNil := fun _ _ _ _ H Q I h => Calls.spliced_nil ⟨[], H, I, .nil, h⟩
theorem pa_cons (ha : PE X e te) (hr : PA X es t) (hs : starEach (e :: es) X.env = (false, eval e X.env) :: starEach es X.env := by rfl) : PA X (e :: es) (tCons te t) := by
  intro pos pins s σ H Q I h
  rw [hs]
  show wpAny _ _ (spliced ((false, eval e X.env) :: backTo pos (starEach es X.env))) _ _ s
  refine Calls.spliced_cons (thn (ha pins s σ H _ I h) fun u s1 ⟨x, H1, I1, r1, q1⟩ => ?_)
  exact thn (hr pos pins s1 σ H1 _ I1 q1) fun us s2 ⟨xs, H2, I2, r2, q2⟩ => ⟨x :: xs, H2, I2, .cons r1 r2, q2⟩
def tLst (t : TA) : TE := fun σ H Q => t σ H fun xs H1 => xs.length ≤ sizeLine ∧ ∀ p, H1 p = none → Q (.ref p) (upd H1 p (.lst xs))
theorem pe_lst (h : PA X es t) : PE X (.List es pos) (tLst t) := by
  intro pins s σ H Q I hq
  refine wpAny_List_spliced (thn (h pos pins s σ H _ I hq) fun us s1 ⟨xs, H1, I1, r, z, q⟩ => ⟨by rw [← r.length]; exact z, ?_⟩)
  have hf : H1 s1.heap.objs.size = none := I1.hok.fresh (Nat.le_refl _)
  refine ⟨.ref s1.heap.objs.size, upd H1 s1.heap.objs.size (.lst xs), I1.laid (t' := s1.toks) (fun b u e => Heap.get?_push_of_some _ e) (Nat.le_refl _) ?_, rfl, q _ hf⟩
  exact ⟨z, us, 0, r, Heap.get?_push_size _ rfl⟩
end
abbrev Sp := List V → Hp → VK → XK → Prop
abbrev CXT := List Env → Hp → Shared → XK → Value → Shared → Prop
structure Env0 (P : Program) (w : World) (K : PySem.W.Frag) (mg : Str → Option Value) (base : Heap) (A : Around) (outer : List Env) (s : Shared) (H : Hp) : Prop where
  frames : A.frames = some outer
  mod : Mod K mg base
  bs : ∀ b o, base.get? b = some o → s.heap.get? b = some o ∧ H b = none
  bsz : base.objs.size ≤ s.heap.objs.size
  funs : s.heap.FunFrames base outer
  frf : ∀ b ∈ frs outer, H b = none
  hok : HOk P w H s.heap
  bare : AllBare s.gens
def CE (outer : List Env) (P : Program) (w : World) (H : Hp) (s : Shared) (Q : VK) (u : Value) (s' : Shared) : Prop :=
  ∃ v H', s'.os = s.os ∧ AllBare s'.gens ∧ Un (frs outer) [] H H' s.heap s'.heap ∧ HOk P w H' s'.heap ∧ RelV v u ∧ Q v H'
def CR (CX : CXT) (outer : List Env) (P : Program) (w : World) (H : Hp) (s : Shared) (Q : VK) (E : XK) (r : Result) (s' : Shared) : Prop :=
  match r with
  | .ok (.ret u) => CE outer P w H s Q u s'
  | .ok _ => False
  | .error e => CX outer H s E e s'
structure FnOk (P : Program) (w : World) (K : PySem.W.Frag) (mg : Str → Option Value) (base : Heap) (CX : CXT) (k : Nat) (f : Addr) (fd : FuncData) (ps : List Str) (sp : Sp) : Prop where
  len : ∀ vs H Q E, sp vs H Q E → vs.length = ps.length
  run : ∀ (A : Around) (outer : List Env) (s : Shared) (H : Hp) (args : Args) (us : List Value) (vs : List V) (Q : VK) (E : XK), Room k A → Env0 P w K mg base A outer s H → BindsTo s fd args (ps.zip us) → Vals vs us → sp vs H Q E →
    codeAny (model P w) A (.call (.ref f) args) (CR CX outer P w H s Q E) s
section
variable {X : Cx} {pins : List (Addr × Obj)} {σ : St} {H : Hp} {s s' : Shared}
theorem Inv.env0 (I : Inv X pins σ H s) : Env0 X.prog X.w X.K X.mg X.base X.A X.stack s H :=
  ⟨I.ok.frames, I.ok.mod, I.bs, Nat.le_trans I.ok.bsz I.sz, I.stack, I.stkFree, I.hok, I.bare⟩
theorem Inv.after {Q : VK} {u : Value} (I : Inv X pins σ H s) (h : CE X.stack X.prog X.w H s Q u s') : EP X pins σ Q u s' := by
  obtain ⟨v, H', os, bare, un, hok, r, q⟩ := h
  obtain ⟨hh, g, d, t, os'⟩ := s'
  obtain rfl : os' = s.os := os
  exact ⟨v, H', I.call (h' := hh) (g' := g) (d' := d) (t' := t) (ch := []) un hok bare (fun b z => absurd z (by simp)), r, q⟩
end
def tCall (sp : Sp) (dvs : List V) (E : XK) (t : TA) : TE := fun σ H Q => t σ H fun vs H1 => sp (vs ++ dvs) H1 Q E
def Binds (K : PySem.W.Frag) (fd : FuncData) (ps : List Str) (ds : List Value) : Prop :=
  ∀ (s : Shared) (us : List Value), K.In s.heap → (us ++ ds).length = ps.length → BindsTo s fd ⟨us, []⟩ (ps.zip (us ++ ds))
theorem Binds.all {K : PySem.W.Frag} {fd : FuncData} {ps : List Str} (h : ∀ us : List Value, us.length = ps.length → bindArgs fd ⟨us, []⟩ = pure (ps.zip us)) : Binds K fd ps [] := fun s us _ hl => by
  rw [List.append_nil] at hl ⊢
  exact .of_eq (h us hl)
def Passes (CX : CXT) (X : Cx) (E : XK) : Prop := ∀ (pins : List (Addr × Obj)) (σ : St) (H : Hp) (s : Shared) (e : Value) (s' : Shared), Inv X pins σ H s → CX X.stack H s E e s' → X.xe e s'
section
variable {X : Cx} {CX : CXT} {k : Nat} {f C : Addr} {fd : FuncData} {ps : List Str} {sp : Sp} {dvs : List V} {ds : List Value} {E : XK} {x m : Str} {p pos apos : Pos} {e o : Expr} {es : List Expr} {ta : TE} {t : TA}
theorem run_fn {pins : List (Addr × Obj)} {σ : St} {H : Hp} {s : Shared} {Q : VK} {us : List Value} {vs : List V} (F : FnOk X.prog X.w X.K X.mg X.base CX k f fd ps sp) (hr : Room k X.A) (hb : Binds X.K fd ps ds) (hd : Vals dvs ds) (hx : Passes CX X E)
    (I : Inv X pins σ H s) (r : Vals vs us) (h : sp (vs ++ dvs) H Q E) : wpAny (model X.prog X.w) X.A (call (.ref f) us) (EP X pins σ Q) X.xe s := by
  have r2 : Vals (vs ++ dvs) (us ++ ds) := r.append hd
  have hl : (us ++ ds).length = ps.length := by rw [← r2.length]; exact F.len _ _ _ _ h
  refine wpAny_call (codeAny_mono (F.run X.A X.stack s H ⟨us, []⟩ (us ++ ds) (vs ++ dvs) Q E hr I.env0 (hb s us I.kIn hl) r2 h) fun r s' hq => ?_)
  cases r with
  | error e => exact hx pins σ H s e s' I hq
  | ok fl =>
    cases fl with
    | ret u => exact I.after hq
    | next => exact False.elim hq
    | brk => exact False.elim hq
    | cont => exact False.elim hq
theorem pe_call (F : FnOk X.prog X.w X.K X.mg X.base CX k f fd ps sp) (hr : Room k X.A) (hg : Gl X x) (hm : X.mg x = some (.ref f)) (hk : PySem.W.keepIn X.K (.ref f) = true) (hb : Binds X.K fd ps ds) (hd : Vals dvs ds) (hx : Passes CX X E)
    (ha : PA X (e :: es) t) (hdb : (x == ("__debug__" : Str)) = false := by decide) (he : starEach (e :: es) X.env = (false, eval e X.env) :: starEach es X.env := by rfl) (hpl : (backTo pos (starEach es X.env)).any (·.1) = false := by rfl) :
    PE X (.Call (.Name x p) (e :: es) [] pos) (tCall sp dvs E t) := by
  intro pins s σ H Q I h
  refine wpAny_Call_Name_kw (ld_glob I hg hm ?_ hdb)
  refine PySem.W.callWith_K (h₀ := X.base) I.ok.mod.kin hk (thn (ha pos pins s σ H _ I h) fun us s1 ⟨vs, H1, I1, r, q⟩ => ⟨I1.kIn, ?_⟩) he hpl
  exact run_fn F hr hb hd hx I1 r q
end
def PK (X : Cx) (kws : List Keyword) (t : TA) : Prop :=
  ∀ (pos : Pos) (pins : List (Addr × Obj)) (s : Shared) (σ : St) (H : Hp) (Q : List V → Hp → Prop), Inv X pins σ H s → t σ H Q → wpAny (model X.prog X.w) X.A (evalAll ((backToKw pos (keywordEach kws X.env)).map (·.2))) (AP X pins σ Q) X.xe s
section
variable {X : Cx} {CX : CXT} {k : Nat} {f C : Addr} {fd : FuncData} {ps ks : List Str} {sp : Sp} {E : XK} {x m : Str} {p pos apos kpos : Pos} {e o : Expr} {es : List Expr} {kws : List Keyword} {te ta : TE} {t tk : TA} {nm : Option Str}
theorem pk_nil : PK X [] tNil := fun _ _ _ _ H Q I h => wpAny_evalAll_nil ⟨[], H, I, .nil, h⟩
theorem pk_cons (ha : PE X e te) (hr : PK X kws t) : PK X (⟨nm, e, kpos⟩ :: kws) (tCons te t) := by
  intro pos pins s σ H Q I h
  show wpAny _ _ (evalAll ((do let v ← eval e X.env; standAt pos; pure v) :: (backToKw pos (keywordEach kws X.env)).map (·.2))) _ _ s
  refine wpAny_evalAll_cons (wpAny_bind (thn (ha pins s σ H _ I h) fun u s1 ⟨x, H1, I1, r1, q1⟩ => wpAny_bind (wpAny_standAt (wpAny_pure ?_))))
  exact thn (hr pos pins s1 σ H1 _ I1 q1) fun us s2 ⟨xs, H2, I2, r2, q2⟩ => ⟨x :: xs, H2, I2, .cons r1 r2, q2⟩
variable {g : List Value → List Value → List Value} {gV : List V → List V → List V}
end
structure FnScope (N P : List Str) (sc : Scope) : Prop where
  kind : sc.kind = .function
  co : sc.isCoroutine = false
  gen : sc.isGenerator = false
  nd : N.Nodup
  pre : N.take P.length = P
  par : ∀ x ∈ P, sc.names.lookup x = some .local ∨ sc.names.lookup x = some .cell
  nofree : ∀ y ∈ sc.names, y.2 ≠ .free
theorem bindL_out {kindOf : Str → Option NameKind} {x : Str} : ∀ {binds : List (Str × Value)} {m : Str → Option Value}, (∀ v, (x, v) ∉ binds) → bindL kindOf binds m x = m x
  | [], _, _ => rfl
  | (n, v) :: r, m, h => by
    unfold bindL
    rw [bindL_out fun w hw => h w (List.mem_cons_of_mem _ hw)]
    split
    · have : x ≠ n := by rintro rfl; exact h v List.mem_cons_self
      simp [this]
    · rfl
theorem bindC_out {kindOf : Str → Option NameKind} {x : Str} : ∀ {binds : List (Str × Value)} {m : Str → Option Value}, (∀ v, (x, v) ∉ binds) → bindC kindOf binds m x = m x
  | [], _, _ => rfl
  | (n, v) :: r, m, h => by
    unfold bindC
    rw [bindC_out fun w hw => h w (List.mem_cons_of_mem _ hw)]
    split
    · rfl
    · have : x ≠ n := by rintro rfl; exact h v List.mem_cons_self
      simp [this]
theorem bindL_get {kindOf : Str → Option NameKind} {x : Str} {v : Value} : ∀ {P : List Str} {vs : List Value} {i : Nat} {m : Str → Option Value}, P.Nodup → P[i]? = some x → vs[i]? = some v → kindOf x = some .local →
    bindL kindOf (P.zip vs) m x = some v
  | [], _, _, _, _, h, _, _ => by simp at h
  | _ :: _, [], _, _, _, _, h, _ => by simp at h
  | p :: P, w :: vs, 0, m, nd, h1, h2, hk => by
    simp at h1 h2; subst h1; subst h2
    show bindL kindOf ((p, w) :: P.zip vs) m p = _
    unfold bindL
    rw [bindL_out fun v hv => (List.nodup_cons.mp nd).1 (List.of_mem_zip hv).1, if_pos hk]
    simp
  | p :: P, w :: vs, i + 1, m, nd, h1, h2, hk => by
    show bindL kindOf ((p, w) :: P.zip vs) m x = _
    unfold bindL
    exact bindL_get (i := i) (List.nodup_cons.mp nd).2 (by simpa using h1) (by simpa using h2) hk
theorem bindC_get {kindOf : Str → Option NameKind} {x : Str} {v : Value} : ∀ {P : List Str} {vs : List Value} {i : Nat} {m : Str → Option Value}, P.Nodup → P[i]? = some x → vs[i]? = some v → kindOf x ≠ some .local →
    bindC kindOf (P.zip vs) m x = some v
  | [], _, _, _, _, h, _, _ => by simp at h
  | _ :: _, [], _, _, _, _, h, _ => by simp at h
  | p :: P, w :: vs, 0, m, nd, h1, h2, hk => by
    simp at h1 h2; subst h1; subst h2
    show bindC kindOf ((p, w) :: P.zip vs) m p = _
    unfold bindC
    rw [bindC_out fun v hv => (List.nodup_cons.mp nd).1 (List.of_mem_zip hv).1, if_neg hk]
    simp
  | p :: P, w :: vs, i + 1, m, nd, h1, h2, hk => by
    show bindC kindOf ((p, w) :: P.zip vs) m x = _
    unfold bindC
    exact bindC_get (i := i) (List.nodup_cons.mp nd).2 (by simpa using h1) (by simpa using h2) hk
def start (N : List Str) (vs : List V) : St := vs.map some ++ List.replicate (N.length - vs.length) none
def cxOf (CX : CXT) (P : Program) (w : World) (K : PySem.W.Frag) (mg : Str → Option Value) (base : Heap) (N : List Str) (qual : Str) (scope : Scope) (f : Addr) (cd : Value) (A : Around) (outer : List Env) (s : Shared) (H : Hp) (E : XK) : Cx where
  prog := P
  w := w
  K := K
  mg := mg
  base := base
  A := A.deeper (envOfC qual scope s.heap.objs.size f cd)
  N := N
  s₀ := s
  H₀ := H
  env := envOfC qual scope s.heap.objs.size f cd
  outer := outer
  stack := envOfC qual scope s.heap.objs.size f cd :: outer
  ex := []
  calm := true
  fn := fun _ => true
  pn := []
  xe := fun e s' => wpAny (model P w) (A.deeper (envOfC qual scope s.heap.objs.size f cd)) (leaving (envOfC qual scope s.heap.objs.size f cd) e) (fun _ s'' => CX outer H s E e s'') (fun e' s'' => CX outer H s E e' s'') s'
theorem cell_has {sc : Scope} {n : Nat} {x : Str} (h : sc.names.lookup x = some .cell) : ∃ c, (cellsFrom n sc.names []).lookup x = some c := by
  have q := PySem.W.cellsFrom_some sc.names n [] (.inl h)
  exact Option.isSome_iff_exists.mp q
theorem inv_start {CX : CXT} {P : Program} {w : World} {K : PySem.W.Frag} {mg : Str → Option Value} {base : Heap} {N ps : List Str} {qual : Str} {scope : Scope} {f : Addr} {cd : Value} {A : Around} {outer : List Env} {s s1 : Shared} {H : Hp} {E : XK} {us : List Value} {vs : List V}
    (S : FnScope N ps scope) (hd : A.handled = none) (e0 : Env0 P w K mg base A outer s H) (hl : vs.length = ps.length) (r : Vals vs us)
    (x : InCallC s s.heap.objs.size (bindL (envOfC qual scope s.heap.objs.size f cd).kindOf (ps.zip us) fun _ => none) (cellsFrom (s.heap.objs.size + 1) scope.names []) (bindC (envOfC qual scope s.heap.objs.size f cd).kindOf (ps.zip us) fun _ => none) s1) :
    Inv (cxOf CX P w K mg base N qual scope f cd A outer s H E) [] (start N vs) H s1 := by
  have hpl : ps.length ≤ N.length := by have := congrArg List.length S.pre; rw [List.length_take] at this; omega
  obtain ⟨h1, tk, rfl, hk⟩ := x.done
  have noA : ∀ b : Addr, b ∉ (cxOf CX P w K mg base N qual scope f cd A outer s H E).ex := fun b z => absurd (show b ∈ ([] : List Addr) from z) (by simp)
  refine ⟨⟨e0.mod, S.kind, rfl, rfl, Nat.le_refl _, fun y z c h1 h2 => ?_, fun y hy => ?_, fun y c _ h => ?_, fun _ => hd, Around.frames_deeper e0.frames, .inr ⟨rfl, rfl⟩, fun b z => absurd z (noA b), e0.bs, e0.bsz, fun b _ _ => noA b, fun b z => absurd z (noA b), e0.funs, e0.frf⟩,
    rfl, e0.bare, Un.kept hk, ⟨_, x.toInCall.ns, fun i y v h1 h2 h3 => ?_⟩, fun y c h => ⟨_, x.cell y c h⟩, e0.hok.fresh (Nat.le_refl _), fun y c h => ?_, fun p hp => absurd (show p ∈ ([] : List (Addr × Obj)) from hp) (by simp), e0.hok.kept hk, ?_⟩
  · exact name_of_addr x.apart (PySem.mem_of_lookup h1) (PySem.mem_of_lookup h2)
  · have hy : scope.names.lookup y = some .cell ∨ scope.names.lookup y = some .free := hy
    rcases hy with hy | hy
    · exact cell_has hy
    · exact absurd rfl (S.nofree _ (PySem.mem_of_lookup hy))
  · exact Nat.le_of_lt (x.above y c (PySem.mem_of_lookup h))
  · have hi : i < vs.length := by
      unfold start at h2
      by_cases hi : i < vs.length
      · exact hi
      · rw [List.getElem?_append_right (by simpa using hi)] at h2
        rw [List.getElem?_replicate] at h2
        split at h2 <;> cases h2
    have ha : vs[i]? = some v := by
      unfold start at h2
      rw [List.getElem?_append_left (by simpa using hi), List.getElem?_map] at h2
      cases e : vs[i]? with
      | none => rw [e] at h2; cases h2
      | some a => rw [e] at h2; cases h2; rfl
    obtain ⟨u, hu, rv⟩ := r.get ha
    have hp : ps[i]? = some y := by
      rw [← S.pre, List.getElem?_take_of_lt (by omega)]; exact h1
    have ndP : ps.Nodup := by rw [← S.pre]; exact S.nd.sublist (List.take_sublist _ _)
    refine ⟨u, rv, ?_⟩
    rcases S.par y (List.mem_of_getElem? hp) with k | k
    · exact .inl ⟨k, bindL_get ndP hp hu k⟩
    · obtain ⟨c, e⟩ := cell_has (n := s.heap.objs.size + 1) k
      refine .inr ⟨.inl k, c, e, ?_⟩
      have q := x.cell y c e
      rw [bindC_get ndP hp hu (by show scope.names.lookup y ≠ _; rw [k]; decide)] at q
      exact q
  · exact e0.hok.fresh (Nat.le_of_lt (x.above y c (PySem.mem_of_lookup h)))
  · unfold start
    show _ = N.length
    rw [List.length_append, List.length_map, List.length_replicate]
    omega
theorem fn_of {CX : CXT} {P : Program} {w : World} {K : PySem.W.Frag} {mg : Str → Option Value} {base : Heap} {k : Nat} {f : Addr} {name qual : Str} {params : Arguments} {body : List Stmt} {scope : Scope} {dV kV doc pm cdv ct oc : Value} {an od : Option Addr}
    {osl : Array (Option Value)} {N ps : List Str} {sp : Sp} (lk : K.lookup f = some ⟨oc, od, .func (PySem.W.fnOf name qual params body scope dV kV doc pm an cdv ct), osl⟩) (hcd : PySem.W.codeIn K cdv qual = true) (S : FnScope N ps scope)
    (len : ∀ vs H Q E, sp vs H Q E → vs.length = ps.length)
    (hbody : ∀ (A : Around) (outer : List Env) (s : Shared) (H : Hp) (vs : List V) (Q : VK) (E : XK), Room k (A.deeper (envOfC qual scope s.heap.objs.size f cdv)) → sp vs H Q E →
      ∃ t, PSs (cxOf CX P w K mg base N qual scope f cdv A outer s H E) body t ∧ t { nx := fun _ H' => Q .non H', rt := Q } (start N vs) H) :
    FnOk P w K mg base CX (k + 1) f (PySem.W.fnOf name qual params body scope dV kV doc pm an cdv ct) ps sp := by
  refine ⟨len, fun A outer s H args us vs Q E hr e0 hb r hsp => ?_⟩
  have hl := len _ _ _ _ hsp
  have KX : K.In s.heap := e0.mod.kin.keeps fun b o e => (e0.bs b o e).1
  have lim : s.heap.NoLimit := e0.mod.nolimit.keeps fun b o e => (e0.bs b o e).1
  have hkind : ∀ y ∈ ps.zip us, scope.names.lookup y.1 = some .local ∨ (scope.names.lookup y.1 = some .cell ∧ ((cellsFrom (s.heap.objs.size + 1) scope.names []).lookup y.1).isSome = true) := fun ⟨n, v⟩ hy => by
    rcases S.par n (List.of_mem_zip hy).1 with q | q
    · exact .inl q
    · exact .inr ⟨q, PySem.W.cellsFrom_some _ _ _ (.inl q)⟩
  refine codeAny_call_function hr.depth (KX _ _ lk) rfl S.co S.gen rfl (PySem.W.codeRec_of KX hcd) (hb _ _ _ _ ?_)
  refine wpAny_newFunctionEnv_cells S.kind hkind fun env he s1 x => ?_
  subst he
  refine ⟨lim.keeps x.toInCall.keep, codeAny_func ?_⟩
  obtain ⟨t, ht, hq⟩ := hbody A outer s H vs Q E (hr.deeper _) hsp
  have I : Inv (cxOf CX P w K mg base N qual scope f cdv A outer s H E) [] (start N vs) H s1 := inv_start S hr.hd e0 hl r x
  refine wpAny_mono (ht [] s1 (start N vs) H _ I hq) (fun fl s' hs => ?_) fun e s' hs => hs
  have fin : ∀ {σ' : St} {H' : Hp} {v : V} {u : Value}, Inv (cxOf CX P w K mg base N qual scope f cdv A outer s H E) [] σ' H' s' → RelV v u → Q v H' → CE outer P w H s Q u s' :=
    fun {σ' H' v u} J rv q => ⟨v, H', J.os, J.bare, J.base, J.hok, rv, q⟩
  cases fl with
  | ret u =>
    obtain ⟨v, σ', H', J, rv, q⟩ := hs
    exact fin J rv q
  | next =>
    obtain ⟨σ', H', J, q⟩ := hs
    exact fin (v := V.non) (u := Value.none) J rfl q
  | brk =>
    obtain ⟨_, _, _, q⟩ := hs
    exact False.elim q
  | cont =>
    obtain ⟨_, _, _, q⟩ := hs
    exact False.elim q
end L2
namespace L2
open PySem PySem.Spec PyProof.Rows
section
variable {X : Cx} {x : Str} {p pos : Pos} {e : Expr} {es : List Expr} {t : TA} {id T : String} {r : List V → Hp → VK → Prop}
def tCB (r : List V → Hp → VK → Prop) (t : TA) : TE := fun σ H Q => t σ H fun vs H1 => r vs H1 Q
theorem pe_callB (hc : CallR X (.builtin id) r) (hg : Gl X x) (hm : X.mg x = none) (hv : bootBuiltins x = some (.builtin id)) (ha : PA X (e :: es) t) (hn : x ≠ "__name__" := by decide) (hdb : (x == ("__debug__" : Str)) = false := by decide)
    (he : starEach (e :: es) X.env = (false, eval e X.env) :: starEach es X.env := by rfl) (hpl : (backTo pos (starEach es X.env)).any (·.1) = false := by rfl) : PE X (.Call (.Name x p) (e :: es) [] pos) (tCB r t) := by
  intro pins s σ H Q I h
  refine wpAny_Call_Name_kw (ld_blt I hg hm hv ?_ hn hdb)
  exact PyProof.Rows.callWith_builtin1 (thn (ha pos pins s σ H _ I h) fun us s1 ⟨vs, H1, I1, r1, q1⟩ => hc pins s1 σ H1 vs us Q I1 r1 q1) he hpl
theorem pe_callTy (hc : CallR X (.type T) r) (hg : Gl X x) (hm : X.mg x = none) (hv : bootBuiltins x = some (.type T)) (ha : PA X (e :: es) t) (hn : x ≠ "__name__" := by decide) (hdb : (x == ("__debug__" : Str)) = false := by decide)
    (he : starEach (e :: es) X.env = (false, eval e X.env) :: starEach es X.env := by rfl) (hpl : (backTo pos (starEach es X.env)).any (·.1) = false := by rfl) : PE X (.Call (.Name x p) (e :: es) [] pos) (tCB r t) := by
  intro pins s σ H Q I h
  refine wpAny_Call_Name_kw (ld_blt I hg hm hv ?_ hn hdb)
  exact PyProof.Rows.callWith_type1 (thn (ha pos pins s σ H _ I h) fun us s1 ⟨vs, H1, I1, r1, q1⟩ => hc pins s1 σ H1 vs us Q I1 r1 q1) he hpl
end
end L2
namespace HT
open PySem PyProof.Rows
def lexLt : List Int → List Int → Bool
  | [], [] => false
  | [], _ :: _ => true
  | _ :: _, [] => false
  | x :: xs, y :: ys => if x = y then lexLt xs ys else decide (x < y)
theorem lexLt_cons (x y : Int) (xs ys : List Int) : lexLt (x :: xs) (y :: ys) = if x = y then lexLt xs ys else decide (x < y) := rfl
theorem lexLt_nil_cons (y : Int) (ys : List Int) : lexLt [] (y :: ys) = true := rfl
theorem eqAt_int (A : Around) (s : Shared) (a : Int) (t : Tok) (c : Int) (u : Tok) : ∃ e, SeqAt.EqAt A s (.int a t) (.int c u) e ∧ (e = true ↔ a = c) :=
  ⟨(a == c), SeqAt.EqAt.int_int a t c u, by simp⟩
theorem rcLt_int (A : Around) (s : Shared) (a : Int) (t : Tok) (c : Int) (u : Tok) (prog : Program) (w : World) (E : Value → Shared → Prop) (Q : Value → Shared → Prop) (h : Q (.bool (decide (a < c))) s) :
    wpAny (model prog w) A (richCompare .Lt (.int a t) (.int c u)) Q E s :=
  (PyProof.Rows.lt_int h : wpAny (model prog w) A (compareOp .Lt (.int a t) (.int c u)) Q E s)
section
open PySem.SeqAt
open PySem.AutoSeq1 (wpAny_loadPart')
open PySem.MeetsSeq PySem.MeetsSeq2 PySem.MeetsSeq3
end
section
variable {prog : Program} {w : World} {A : Around} {E : Value → Shared → Prop} {s : Shared}
def sIx (n d : Nat) : Option Int → Nat
  | none => d
  | some v => if v < 0 then (v + (n : Int)).toNat else min v.toNat n
theorem sIx_none (n d : Nat) : sIx n d none = d := rfl
theorem sIx_nat (n d k : Nat) : sIx n d (some (k : Int)) = min k n := by
  show (if (k : Int) < 0 then ((k : Int) + (n : Int)).toNat else min (k : Int).toNat n) = min k n
  rw [if_neg (by omega), Int.toNat_natCast]
end
end HT
namespace L2
open PySem PySem.Spec PyProof.Rows
abbrev TO := St → Hp → (Option Int → Hp → Prop) → Prop
def PO (X : Cx) (e : Option Expr) (t : TO) : Prop :=
  ∀ (pins : List (Addr × Obj)) (s : Shared) (σ : St) (H : Hp) (Q : Option Int → Hp → Prop), Inv X pins σ H s → t σ H Q →
    wpAny (model X.prog X.w) X.A (evalPart e X.env) (fun u s' => ∃ o H', Inv X pins σ H' s' ∧ IsPart u o ∧ Q o H') X.xe s
def tNoPart : TO := fun _ H Q => Q none H
def tPart (t : TE) : TO := fun σ H Q => t σ H fun x H1 => ∃ i, x = .int i ∧ Q (some i) H1
theorem intsAre_of {ns : List Int} : ∀ {us : List Value}, Vals (ns.map V.int) us → IntsAre us ns := by
  induction ns with
  | nil => intro us r; rw [List.map_nil] at r; cases r; exact .nil
  | cons n ns ih =>
    intro us r
    rw [List.map_cons] at r
    cases r with
    | cons r1 r2 =>
      obtain ⟨t, e⟩ := r1
      subst e
      exact .cons n t (ih r2)
section
variable {X : Cx} {e : Expr} {te : TE} {lo hi : Option Expr} {tl th : TO} {pos p2 : Pos}
theorem po_none : PO X none tNoPart := by
  intro pins s σ H Q I h
  rw [evalPart_none]
  exact wpAny_pure ⟨none, H, I, .none, h⟩
theorem po_some (h : PE X e te) : PO X (some e) (tPart te) := by
  intro pins s σ H Q I hw
  rw [evalPart_some]
  refine thn (h pins s σ H _ I hw) fun u s1 ⟨x, H1, I1, r1, q1⟩ => ?_
  obtain ⟨i, rfl, q⟩ := q1
  obtain ⟨t, rfl⟩ := r1
  exact ⟨some i, H1, I1, .int i t, q⟩
def SlR (X : Cx) (r : V → Option Int → Option Int → Hp → VK → Prop) : Prop :=
  ∀ (pins : List (Addr × Obj)) (s : Shared) (σ : St) (H : Hp) (x : V) (v vl vu : Value) (lo hi : Option Int) (sl : Addr) (Q : VK), Inv X pins σ H s → RelV x v → s.heap.IsSliceOf sl vl vu .none → IsPart vl lo → IsPart vu hi → r x lo hi H Q →
    ∃ T id, typeLookup (.type T) "__getitem__" = pure (some (.builtin id)) ∧ s.TypeIs v T ∧ wpAny (model X.prog X.w) X.A (getItem v (.ref sl)) (EP X pins σ Q) X.xe s
def tSl (r : V → Option Int → Option Int → Hp → VK → Prop) (te : TE) (tl th : TO) : TE := fun σ H Q => te σ H fun x H1 => tl σ H1 fun l H2 => th σ H2 fun u H3 => r x l u H3 Q
theorem pe_slice {r : V → Option Int → Option Int → Hp → VK → Prop} (hr : SlR X r) (he : PE X e te) (hl : PO X lo tl) (hu : PO X hi th) : PE X (.Subscript e (.Slice lo hi none p2) pos) (tSl r te tl th) := by
  intro pins s σ H Q I h
  refine Subscript_ (thn (he pins s σ H _ I h) fun v s1 ⟨x, H1, I1, r1, q1⟩ => ?_)
  refine wpAny_Slice (thn (hl pins s1 σ H1 _ I1 q1) fun vl s2 ⟨l, H2, I2, pl, q2⟩ => thn (hu pins s2 σ H2 _ I2 q2) fun vu s3 ⟨u, H3, I3, pu, q3⟩ => ?_)
  rw [evalPart_none]
  refine wpAny_pure ?_
  have I4 : Inv X pins σ H3 { s3 with heap := s3.heap.push { cls := .type "slice", data := .fields #[vl, vu, .none] } } := I3.kept (t' := s3.toks) fun b ob q => Heap.get?_push_of_some _ q
  obtain ⟨T, id, hT, ht, hg⟩ := hr pins { s3 with heap := s3.heap.push { cls := .type "slice", data := .fields #[vl, vu, .none] } } σ H3 x v vl vu l u s3.heap.objs.size Q I4 r1 (Heap.IsSliceOf.new ..) pl pu q3
  show wpAny (model X.prog X.w) X.A (subscriptTail e (.Slice lo hi none p2) v (.ref s3.heap.objs.size)) (EP X pins σ Q) X.xe { s3 with heap := s3.heap.push { cls := .type "slice", data := .fields #[vl, vu, .none] } }
  exact tail_any (ops := [.ref s3.heap.objs.size, v]) ht hT hg (by with_unfolding_all rfl)
def cutV (xs : List V) (lo hi : Option Int) : List V := (xs.drop (HT.sIx xs.length 0 lo)).take (HT.sIx xs.length xs.length hi - HT.sIx xs.length 0 lo)
theorem cutV_length (xs : List V) (lo hi : Option Int) : (cutV xs lo hi).length ≤ xs.length := by
  unfold cutV
  rw [List.length_take, List.length_drop]
  omega
end
end L2
namespace L2
open PySem PySem.Spec PyProof.Rows
def ixN (n : Nat) (i : Int) : Option Nat := if 0 ≤ i then (if i < n then some i.toNat else none) else if -(n : Int) ≤ i then some (i + n).toNat else none
def atI {α : Type} (xs : List α) (i : Int) : Option α := (ixN xs.length i).bind fun j => xs[j]?
theorem ixN_seq {n : Nat} {i : Int} {j : Nat} (h : ixN n i = some j) : seqIndex? i n = some j ∧ j < n ∧ -(n : Int) ≤ i ∧ i < n := by
  unfold ixN at h
  by_cases h0 : 0 ≤ i
  · rw [if_pos h0] at h
    by_cases h1 : i < n
    · rw [if_pos h1] at h
      have e : i.toNat = j := Option.some.inj h
      exact ⟨by rw [seqIndex_of h0 h1, e], by omega, by omega, h1⟩
    · rw [if_neg h1] at h; cases h
  · rw [if_neg h0] at h
    by_cases h1 : -(n : Int) ≤ i
    · rw [if_pos h1] at h
      have e : (i + n).toNat = j := Option.some.inj h
      exact ⟨by rw [seqIndex_neg (by omega) h1, e], by omega, h1, by omega⟩
    · rw [if_neg h1] at h; cases h
theorem atI_get {α : Type} {xs : List α} {i : Int} {v : α} (h : atI xs i = some v) : ∃ j, seqIndex? i xs.length = some j ∧ xs[j]? = some v ∧ j < xs.length ∧ -(xs.length : Int) ≤ i ∧ i < xs.length := by
  unfold atI at h
  cases e : ixN xs.length i with
  | none => rw [e] at h; cases h
  | some j =>
    rw [e] at h
    obtain ⟨h1, h2, h3, h4⟩ := ixN_seq e
    exact ⟨j, h1, h, h2, h3, h4⟩
theorem atI_nat {α : Type} {xs : List α} {j : Nat} {v : α} (h : xs[j]? = some v) : atI xs (j : Int) = some v := by
  have hj : j < xs.length := (List.getElem?_eq_some_iff.mp h).1
  have e : ixN xs.length (j : Int) = some j := by
    unfold ixN
    rw [if_pos (by omega), if_pos (by omega)]; simp
  unfold atI; rw [e]; exact h
def PlainIx (b : Expr) : Prop := ∀ o i, subscripted b false o i = operate [o, i] (getItem o i)
def IxR (X : Cx) (r : R2) : Prop :=
  ∀ (value slice : Expr) (pins : List (Addr × Obj)) (s : Shared) (σ : St) (H : Hp) (x y : V) (v u : Value) (Q : VK), Inv X pins σ H s → RelV x v → RelV y u → r x y H Q →
    subscripted slice false v u = operate [v, u] (getItem v u) → wpAny (model X.prog X.w) X.A (subscriptTail value slice v u) (EP X pins σ Q) X.xe s
def MtR (X : Cx) (id : String) (r : V → List V → Hp → VK → Prop) : Prop :=
  ∀ (pins : List (Addr × Obj)) (s : Shared) (σ : St) (H : Hp) (x : V) (xs : List V) (v : Value) (us : List Value) (Q : VK), Inv X pins σ H s → RelV x v → Vals xs us → r x xs H Q →
    wpAny (model X.prog X.w) X.A (call (.builtin id) (v :: us)) (EP X pins σ Q) X.xe s
section
variable {X : Cx} {a b : Expr} {ta tb : TE} {pos : Pos}
theorem pe_ix {r : R2} (hr : IxR X r) (ha : PE X a ta) (hb : PE X b tb) (hs : PlainIx b) : PE X (.Subscript a b pos) (tOp r ta tb) := by
  intro pins s σ H Q I h
  exact Subscript_ (binT ha hb I h fun v u s2 x y H2 I2 rx ry q => hr a b pins s2 σ H2 x y v u Q I2 rx ry q (hs _ _))
def rIxL (K : PySem.W.Frag) : R2 := fun x y H Q => ∃ p xs i v, x = .ref p ∧ y = .int i ∧ SqL K H p xs ∧ atI xs i = some v ∧ Q v H
theorem ix_list : IxR X (rIxL X.K) := by
  intro value slice pins s σ H x y v u Q I rx ry h hs
  obtain ⟨p, xs, i, z, rfl, rfl, hq, he, q⟩ := h
  cases rx
  obtain ⟨t, rfl⟩ := ry
  obtain ⟨its, r, pl, hz⟩ := I.list hq
  obtain ⟨j, h1, h2, h3, h4, h5⟩ := atI_get he
  obtain ⟨w, ew, rw'⟩ := r.get h2
  have hl := r.length
  have hn := line63
  have fin : EP X pins σ Q w s := ⟨z, H, I, rw', q⟩
  by_cases h0 : 0 ≤ i
  · have hj : i.toNat = j := by
      rw [seqIndex_of h0 h5] at h1
      exact Option.some.inj h1
    exact item_listR pl.isList h0 (by omega) (by rw [hj]; simpa using ew) fin hs
  · have hj : (i + (its.toArray.size : Int)).toNat = j := by
      rw [seqIndex_neg (by omega) h4] at h1
      rw [List.size_toArray, ← hl]
      exact Option.some.inj h1
    exact subscriptTail_builtinR (x := w) pl.isList.typeIs slot_list_getitem.lookup
      (wpAny_getItem_list_neg (Q := fun r s' => r = w ∧ EP X pins σ Q r s') pl.isList (by omega) (by rw [List.size_toArray] <;> omega) (by omega) (by rw [hj]; simpa using ew) ⟨rfl, fin⟩) hs
theorem mapSeq_set (its : List Value) (n j : Nat) (u : Value) : Obj.mapSeq (·.setIfInBounds j u) { cls := .type "list", data := .seq its.toArray n } = { cls := .type "list", data := .seq (its.set j u).toArray n } := by
  simp [Obj.mapSeq]
theorem Inv.lst {pins : List (Addr × Obj)} {σ : St} {H : Hp} {s : Shared} {p : Addr} {xs : List V} (I : Inv X pins σ H s) (h : H p = some (.lst xs)) :
    ∃ (its : List Value) (n : Nat), Vals xs its ∧ s.heap.get? p = some { cls := .type "list", data := .seq its.toArray n } ∧ xs.length ≤ sizeLine := by
  obtain ⟨z, its, n, r, e⟩ := I.hok p _ h
  exact ⟨its, n, r, e, z⟩
theorem Inv.lstUpd {pins : List (Addr × Obj)} {σ : St} {H : Hp} {s : Shared} {p : Addr} {xs ys : List V} {its its' : List Value} {n n' : Nat} {f : Obj → Obj} (I : Inv X pins σ H s) (h : H p = some (.lst xs))
    (ho : s.heap.get? p = some { cls := .type "list", data := .seq its.toArray n }) (hf : f { cls := .type "list", data := .seq its.toArray n } = { cls := .type "list", data := .seq its'.toArray n' }) (r : Vals ys its') (hz : ys.length ≤ sizeLine) (t : Nat) :
    Inv X pins σ (upd H p (.lst ys)) { s with heap := s.heap.update p f, toks := t } := by
  have e : (s.heap.update p f).get? p = some { cls := .type "list", data := .seq its'.toArray n' } := by
    rw [Heap.get?_update_self f ho (by rw [hf] <;> rfl), hf]
  refine I.write (x := p) (e := p) (by rw [h]; trivial) (.inl rfl) (fun b u hb q => (Heap.get?_update_other _ _ (Ne.symm hb)).trans q) ⟨_, e⟩ ?_
  exact ⟨hz, its', n', r, e⟩
def rSetL : V → V → V → Hp → (Hp → Prop) → Prop := fun o i v H Q => ∃ p xs k j, o = .ref p ∧ i = .int k ∧ H p = some (.lst xs) ∧ ixN xs.length k = some j ∧ Q (upd H p (.lst (xs.set j v)))
theorem set_list : PSet X rSetL := by
  intro pins s σ H o i v ov iv u Q I ro ri rv h
  obtain ⟨p, xs, k, j, rfl, rfl, hp, hj, q⟩ := h
  cases ro
  obtain ⟨t, rfl⟩ := ri
  obtain ⟨its, n, r, ho, hz⟩ := I.lst hp
  obtain ⟨h1, h2, h3, h4⟩ := ixN_seq hj
  have hl := r.length
  have hn := line63
  have I' : Inv X pins σ (upd H p (.lst (xs.set j v))) { s with heap := s.heap.update p (Obj.mapSeq (·.setIfInBounds j u)) } :=
    I.lstUpd hp ho (mapSeq_set its n j u) (r.set rv j) (by rw [List.length_set]; exact hz) s.toks
  by_cases h0 : 0 ≤ k
  · have hk : k.toNat = j := by
      rw [seqIndex_of h0 h4] at h1
      exact Option.some.inj h1
    exact PySem.W.ki_setAt ho h0 (by omega) (by rw [List.size_toArray, ← hl]; exact h4) (by rw [hk]; exact ⟨_, I', q⟩)
  · have hk : (k + (its.toArray.size : Int)).toNat = j := by
      rw [seqIndex_neg (by omega) h3] at h1
      rw [List.size_toArray, ← hl]
      exact Option.some.inj h1
    exact PySem.W.ki_setBack ho (by omega) (by rw [List.size_toArray, ← hl]; exact h3) (by omega) (by rw [hk]; exact ⟨_, I', q⟩)
theorem slice_bounds (lo hi : Option Int) (n : Nat) : (sliceBounds lo hi none n).1 = ((HT.sIx n 0 lo : Nat) : Int) ∧ (sliceBounds lo hi none n).2.1 = ((HT.sIx n n hi : Nat) : Int) ∧ (sliceBounds lo hi none n).2.2 = 1 := by
  refine ⟨?_, ?_, rfl⟩
  · cases lo with
    | none => simp [sliceBounds, HT.sIx]
    | some i =>
      simp only [sliceBounds, HT.sIx, Option.getD_none, show (1 : Int) > 0 by decide, if_true]
      by_cases h : i < 0
      · simp only [h, if_true] <;> omega
      · simp only [h, if_false] <;> omega
  · cases hi with
    | none => simp [sliceBounds, HT.sIx]
    | some i =>
      simp only [sliceBounds, HT.sIx, Option.getD_none, show (1 : Int) > 0 by decide, if_true]
      by_cases h : i < 0
      · simp only [h, if_true] <;> omega
      · simp only [h, if_false] <;> omega
theorem slicePick_cut (its : List Value) (lo hi : Option Int) : slicePick its.toArray lo hi none = ((its.drop (HT.sIx its.length 0 lo)).take (HT.sIx its.length its.length hi - HT.sIx its.length 0 lo)).toArray := by
  obtain ⟨h1, h2, h3⟩ := slice_bounds lo hi its.toArray.size
  unfold slicePick
  rw [h1, h2, h3]
  simp only [sliceRange_one, pick_run, List.size_toArray] <;> rfl
def rSlL (K : PySem.W.Frag) : V → Option Int → Option Int → Hp → VK → Prop := fun x lo hi H Q => ∃ a xs, x = .ref a ∧ SqL K H a xs ∧ ∀ p, H p = none → Q (.ref p) (upd H p (.lst (cutV xs lo hi)))
theorem sl_list : SlR X (rSlL X.K) := by
  intro pins s σ H x v vl vu lo hi sl Q I rx hs pl pu h
  obtain ⟨a, xs, rfl, hx, q⟩ := h
  cases rx
  obtain ⟨its, r, ht, hz⟩ := I.list hx
  have hlen := r.length
  refine ⟨"list", _, slot_list_getitem.lookup, ht.isList.typeIs, ?_⟩
  refine wpAny_getItem_list_slice ht.isList hs pl pu .none (by simp) ?_ (by rw [List.size_toArray] <;> omega)
  rw [slicePick_cut, ← hlen]
  refine ⟨.ref s.heap.objs.size, _, I.laid (t' := s.toks) (o := .lst (cutV xs lo hi)) (fun b ob q => Heap.get?_push_of_some _ q) (Nat.le_refl _) ?_, rfl, q _ (I.hok.fresh (Nat.le_refl _))⟩
  exact ⟨Nat.le_trans (cutV_length xs lo hi) hz, _, 0, (r.drop (HT.sIx xs.length 0 lo)).take (HT.sIx xs.length xs.length hi - HT.sIx xs.length 0 lo), Heap.get?_push_size _ rfl⟩
def flatV : V → Bool
  | .non => true
  | .bl _ => true
  | .int _ => true
  | .str _ => true
  | _ => false
def eqV : V → V → Bool
  | .non, .non => true
  | .bl a, .bl b => a == b
  | .bl a, .int b => (if a then 1 else 0) == b
  | .int a, .bl b => a == (if b then 1 else 0)
  | .int a, .int b => a == b
  | .str a, .str b => a == b
  | _, _ => false
theorem eqAt_V {A : Around} {s : Shared} {y x : V} {u v : Value} (ry : RelV y u) (rx : RelV x v) (fy : flatV y = true) (fx : flatV x = true) : SeqAt.EqAt A s u v (eqV y x) := by
  cases y with
  | non =>
    cases ry
    cases x with
    | non => cases rx; exact SeqAt.EqAt.same _
    | bl b => cases rx; exact SeqAt.EqAt.none_bool b
    | int b => obtain ⟨t, rfl⟩ := rx; exact SeqAt.EqAt.none_int b t
    | str b => obtain ⟨t, rfl⟩ := rx; exact SeqAt.EqAt.none_str b t
    | _ => exact absurd (show false = true from fx) Bool.false_ne_true
  | bl a =>
    cases ry
    cases x with
    | non => cases rx; exact SeqAt.EqAt.bool_none a
    | bl b => cases rx; exact SeqAt.EqAt.bool_bool a b
    | int b => obtain ⟨t, rfl⟩ := rx; exact SeqAt.EqAt.bool_int a b t
    | str b => obtain ⟨t, rfl⟩ := rx; exact SeqAt.EqAt.bool_str a b t
    | _ => exact absurd (show false = true from fx) Bool.false_ne_true
  | int a =>
    obtain ⟨t', rfl⟩ := ry
    cases x with
    | non => cases rx; exact SeqAt.EqAt.int_none a t'
    | bl b => cases rx; exact SeqAt.EqAt.int_bool a t' b
    | int b => obtain ⟨t, rfl⟩ := rx; exact SeqAt.EqAt.int_int a t' b t
    | str b => obtain ⟨t, rfl⟩ := rx; exact SeqAt.EqAt.int_str a t' b t
    | _ => exact absurd (show false = true from fx) Bool.false_ne_true
  | str a =>
    obtain ⟨t', rfl⟩ := ry
    cases x with
    | non => cases rx; exact SeqAt.EqAt.str_none a t'
    | bl b => cases rx; exact SeqAt.EqAt.str_bool a t' b
    | int b => obtain ⟨t, rfl⟩ := rx; exact SeqAt.EqAt.str_int a t' b t
    | str b => obtain ⟨t, rfl⟩ := rx; exact SeqAt.EqAt.str_str a t' b t
    | _ => exact absurd (show false = true from fx) Bool.false_ne_true
  | _ => exact absurd (show false = true from fy) Bool.false_ne_true
def eqU (x : V) (u : Value) : Bool := match u with
  | .none => eqV .non x
  | .bool b => eqV (.bl b) x
  | .int i _ => eqV (.int i) x
  | .str z _ => eqV (.str z) x
  | _ => false
theorem eqU_of {x y : V} {u : Value} (r : RelV y u) (f : flatV y = true) : eqU x u = eqV y x := by
  cases y with
  | non => cases r; rfl
  | bl b => cases r; rfl
  | int i => obtain ⟨t, rfl⟩ := r; rfl
  | str z => obtain ⟨t, rfl⟩ := r; rfl
  | _ => exact absurd (show false = true from f) Bool.false_ne_true
theorem mem_eqAt {A : Around} {s : Shared} {x : V} {v : Value} (rx : RelV x v) (fx : flatV x = true) : ∀ {xs : List V} {us : List Value}, Vals xs us → xs.all flatV = true → ∀ u ∈ us, SeqAt.EqAt A s u v (eqU x u)
  | _, _, .nil, _ => fun u hu => by cases hu
  | y :: xs, u :: us, .cons r t, f => fun u' hu => by
    rw [List.all_cons, Bool.and_eq_true] at f
    rcases List.mem_cons.mp hu with rfl | hu
    · rw [eqU_of r f.1]; exact eqAt_V r rx f.1 fx
    · exact mem_eqAt rx fx t f.2 u' hu
theorem call_len_seq : CallR X (.builtin "len") (fun xs H Q => ∃ p ys, xs = [.ref p] ∧ (SqL X.K H p ys ∨ SqT X.K H p ys) ∧ Q (.int ys.length) H) := by
  intro pins s σ H xs us Q I r h
  obtain ⟨p, ys, rfl, hq, q⟩ := h
  obtain ⟨u, rfl, rx⟩ := vals1 r
  cases rx
  have hn := line63
  rcases hq with hq | hq
  · obtain ⟨its, r', pl, hz⟩ := I.list hq
    have hlen := r'.length
    exact Calls.call_len_list pl.isList (by simp only [List.size_toArray] <;> omega) ⟨.int ys.length, H, I.tok _, ⟨s.toks + 1, by rw [List.size_toArray, hlen]⟩, q⟩
  · obtain ⟨its, r', pl, hz⟩ := I.tuple hq
    have hlen := r'.length
    exact len_tuple pl (by simp only [List.size_toArray] <;> omega) ⟨.int ys.length, H, I.tok _, ⟨s.toks + 1, by rw [List.size_toArray, hlen]⟩, q⟩
theorem call_list_of : CallR X (.type "list") (fun xs H Q => ∃ p ys, xs = [.ref p] ∧ (SqL X.K H p ys ∨ SqT X.K H p ys) ∧ ∀ l, H l = none → Q (.ref l) (upd H l (.lst ys))) := by
  intro pins s σ H xs us Q I r h
  obtain ⟨p, ys, rfl, hq, q⟩ := h
  obtain ⟨u, rfl, rx⟩ := vals1 r
  cases rx
  have fin : ∀ (its : List Value), Vals ys its → ys.length ≤ sizeLine → ∀ (h' : Heap) (c' : Nat), (∀ b o', s.heap.get? b = some o' → h'.get? b = some o') →
      h'.get? s.heap.objs.size = some { cls := .type "list", dict := none, data := .seq its.toArray c', slots := #[] } → EP X pins σ Q (.ref s.heap.objs.size) { s with heap := h' } := fun its r' hz h' c' kp e =>
    ⟨.ref s.heap.objs.size, _, I.laid (t' := s.toks) kp (Nat.le_refl _) (show ObjOk X.prog X.w _ h' _ (.lst ys) from ⟨hz, its, c', r', e⟩), rfl, q _ (I.hok.fresh (Nat.le_refl _))⟩
  rcases hq with hq | hq
  · obtain ⟨its, r', pl, hz⟩ := I.list hq
    have hlen := r'.length
    obtain ⟨o, ho, hc, n, hd⟩ := pl.isList
    exact call_list_seq p (.inl rfl) ho hc hd (fun h' c' kp e => fin its r' hz h' c' kp e) (by simp only [List.size_toArray] <;> omega)
  · obtain ⟨its, r', pl, hz⟩ := I.tuple hq
    have hlen := r'.length
    obtain ⟨o, ho, hc, n, hd⟩ := pl
    exact call_list_seq p (.inr rfl) ho hc hd (fun h' c' kp e => fin its r' hz h' c' kp e) (by simp only [List.size_toArray] <;> omega)
def tyV (K : PySem.W.Frag) (T : String) (x : V) (H : Hp) : Prop := match x with
  | .str _ => T = "str"
  | .int _ => T = "int"
  | .ref p => (T = "list" ∧ ∃ xs, SqL K H p xs) ∨ (T = "tuple" ∧ ∃ o, K.lookup p = some o ∧ o.cls = .type "tuple" ∧ o.dict = none) ∨
      (T = "dict" ∧ ((∃ kvs, H p = some (.dK kvs)) ∨ ∃ kvs, H p = some (.dT kvs))) ∨ (T = "set" ∧ ∃ S n, H p = some (.set S n))
  | _ => False
theorem tyV_is {pins : List (Addr × Obj)} {σ : St} {H : Hp} {s : Shared} {T : String} {x : V} {v : Value} (I : Inv X pins σ H s) (r : RelV x v) (ty : tyV X.K T x H) :
    s.TypeIs v T ∧ ∀ a, v = .ref a → ∃ ob, s.heap.get? a = some ob ∧ ob.dict = none := by
  cases x with
  | str z =>
    obtain ⟨t, rfl⟩ := r
    cases (show T = "str" from ty)
    exact ⟨typeIs_str s z t, fun _ e => nomatch e⟩
  | int i =>
    obtain ⟨t, rfl⟩ := r
    cases (show T = "int" from ty)
    exact ⟨typeIs_int s i t, fun _ e => nomatch e⟩
  | ref p =>
    cases r
    rcases ty with ⟨rfl, xs, hq⟩ | ⟨rfl, o, hk, hc, hd⟩ | ⟨rfl, hk⟩ | ⟨rfl, S, n, hk⟩
    · obtain ⟨its, _, pl, _⟩ := I.list hq
      refine ⟨pl.isList.typeIs, fun a e => ?_⟩
      cases e
      obtain ⟨o, n, e, c, hd, _⟩ := pl
      exact ⟨o, e, hd⟩
    · refine ⟨⟨o, I.kIn p o hk, hc⟩, fun a e => ?_⟩
      cases e
      exact ⟨o, I.kIn _ o hk, hd⟩
    · have z : ∃ o, s.heap.get? p = some o ∧ o.ExactDict := by
        rcases hk with ⟨kvs, hk⟩ | ⟨kvs, hk⟩
        · obtain ⟨_, _, _, _, o, _, _, e, ex, _⟩ := I.hok p _ hk
          exact ⟨o, e, ex⟩
        · obtain ⟨_, _, _, _, o, _, _, e, ex, _⟩ := I.hok p _ hk
          exact ⟨o, e, ex⟩
      obtain ⟨o, e, ex⟩ := z
      refine ⟨⟨o, e, ex.1⟩, fun a e2 => ?_⟩
      cases e2
      exact ⟨o, e, ex.2.1⟩
    · obtain ⟨o, _, _, _, e, ex, _⟩ := I.hok p _ hk
      refine ⟨⟨o, e, ex.1⟩, fun a e2 => ?_⟩
      cases e2
      exact ⟨o, e, ex.2.1⟩
  | _ => exact False.elim ty
def tBM (K : PySem.W.Frag) (T : String) (r : V → List V → Hp → VK → Prop) (to : TE) (t : TA) : TE := fun σ H Q => to σ H fun x H1 => tyV K T x H1 ∧ t σ H1 fun xs H2 => r x xs H2 Q
variable {o e : Expr} {es : List Expr} {to : TE} {t : TA} {name : Str} {apos cpos : Pos} {T id : String} {r : V → List V → Hp → VK → Prop}
theorem pe_bm (pa : PlainAttrs T) (slot : Slot T name id) (hty : typeOf (.builtin id) = pure (.type "method_descriptor")) (hm : MtR X id r) (ho : PE X o to) (ha : PA X (e :: es) t)
    (hbase : attributeBase o name X.env (eval o X.env) = eval o X.env := by rfl)
    (hfew : ((backTo cpos (starEach (e :: es) X.env)).all (fun x => !x.1) && (backToKw cpos (keywordEach [] X.env)).all (fun x => x.1.isSome)
      && decide ((e :: es).length + ([] : List Keyword).length + (if ([] : List Keyword).isEmpty then 0 else 1) < 30)) = true := by rfl)
    (hline : (apos.endLine == cpos.line) = true := by rfl) (hs : starEach (e :: es) X.env = (false, eval e X.env) :: starEach es X.env := by rfl) (hplain : (backTo cpos (starEach es X.env)).any (·.1) = false := by rfl) :
    PE X (.Call (.Attribute o name apos) (e :: es) [] cpos) (tBM X.K T r to t) := by
  intro pins s σ H Q I h
  refine wpAny_Call_method_late hbase hfew hline rfl (thn (ho pins s σ H _ I h) fun v s1 ⟨x, H1, I1, r1, ty, q1⟩ => ?_)
  obtain ⟨h1, h2⟩ := tyV_is I1 r1 ty
  refine ⟨T, id, pa, slot, hty, h1, h2, ?_⟩
  have hA := ha cpos pins s1 σ H1 _ I1 q1
  rw [hs] at hA ⊢
  refine Calls.callWith_builtin (by show (false || (backTo cpos (starEach es X.env)).any (·.1)) = false; rw [hplain] <;> rfl) (Calls.evalArgs_plain ?_)
  exact thn hA fun us s2 ⟨vs, H2, I2, r2, q2⟩ => hm pins s2 σ H2 x vs v us Q I2 r1 r2 q2
end
end L2
namespace L2
open PySem PySem.Spec PyProof.Rows
def MtM (X : Cx) (id : String) (r : V → List V → Hp → VK → Prop) : Prop :=
  ∀ (pins : List (Addr × Obj)) (s : Shared) (σ : St) (H : Hp) (x : V) (xs : List V) (v : Value) (us : List Value) (Q : VK), Inv X pins σ H s → RelV x v → Vals xs us → r x xs H Q →
    wpAny (model X.prog X.w) X.A (call (.builtin id) (v :: us)) (EP X pins σ Q) X.xe s
theorem Vals.one : ∀ {x : V} {us : List Value}, Vals [x] us → ∃ u, us = [u] ∧ RelV x u
  | _, _, .cons r .nil => ⟨_, rfl, r⟩
theorem Vals.eraseIdx : ∀ {xs : List V} {us : List Value} (i : Nat), Vals xs us → Vals (xs.eraseIdx i) (us.eraseIdx i)
  | _, _, _, .nil => .nil
  | _, _, 0, .cons _ t => t
  | _, _, i + 1, .cons r t => .cons r (Vals.eraseIdx i t)
theorem Vals.reverse {xs : List V} {us : List Value} (h : Vals xs us) : Vals xs.reverse us.reverse := by
  induction h with
  | nil => exact .nil
  | cons r t ih => rw [List.reverse_cons, List.reverse_cons]; exact Vals.append ih (.cons r .nil)
theorem Vals.rep {xs : List V} {us : List Value} (h : Vals xs us) : ∀ k : Nat, Vals (List.replicate k xs).flatten (List.replicate k us).flatten
  | 0 => .nil
  | k + 1 => by
    rw [List.replicate_succ, List.replicate_succ, List.flatten_cons, List.flatten_cons]
    exact Vals.append h (Vals.rep h k)
theorem len_erase {α : Type} : ∀ (l : List α) (i : Nat), (l.eraseIdx i).length ≤ l.length
  | [], _ => Nat.le_refl _
  | _ :: _, 0 => Nat.le_succ _
  | _ :: r, i + 1 => Nat.succ_le_succ (len_erase r i)
theorem foldl_rep (its : List Value) : ∀ (k : Nat) (acc : List Value),
    List.foldl (fun x1 x2 => x1 ++ x2) acc.toArray (List.replicate k its.toArray) = (acc ++ (List.replicate k its).flatten).toArray
  | 0, acc => by simp
  | k + 1, acc => by
    have e : acc.toArray ++ its.toArray = (acc ++ its).toArray := by simp
    have e2 : (acc ++ its) ++ (List.replicate k its).flatten = acc ++ (List.replicate (k + 1) its).flatten := by
      rw [List.replicate_succ, List.flatten_cons, List.append_assoc]
    rw [← e2, ← foldl_rep its k (acc ++ its), ← e, List.replicate_succ, List.foldl_cons]
section
variable {X : Cx} {pins : List (Addr × Obj)} {σ : St} {H : Hp} {s : Shared} {l b : Addr} {xs ys zs : List V}
theorem Inv.lset {its its' : List Value} {n : Nat} {f : Array Value → Array Value} {t' : Nat} (I : Inv X pins σ H s) (hH : H l = some (.lst xs))
    (e : s.heap.get? l = some { cls := .type "list", data := .seq its.toArray n }) (hf : f its.toArray = its'.toArray) (hv : Vals ys its') (hz : ys.length ≤ sizeLine) :
    Inv X pins σ (upd H l (.lst ys)) { s with heap := s.heap.update l (Obj.mapSeq f), toks := t' } := by
  have q := PySem.IsL.update e f
  rw [hf] at q
  refine I.write (x := l) (e := l) (by rw [hH]; exact trivial) (.inl rfl) (fun b' u hb hu => (Heap.get?_update_other s.heap (Obj.mapSeq f) (Ne.symm hb)).trans hu) ⟨_, q⟩ ?_
  exact ⟨hz, its', _, hv, q⟩
theorem Inv.lnew {its : List Value} {t' : Nat} (I : Inv X pins σ H s) (hv : Vals ys its) (hz : ys.length ≤ sizeLine) :
    Inv X pins σ (upd H s.heap.objs.size (.lst ys)) { s with heap := s.heap.push { cls := .type "list", data := .seq its.toArray }, toks := t' } :=
  I.laid (fun _ _ q => Heap.get?_push_of_some _ q) (Nat.le_refl _) ⟨hz, its, 0, hv, Heap.get?_push_size _ rfl⟩
theorem Inv.fresh (I : Inv X pins σ H s) : H s.heap.objs.size = none := I.hok.fresh (Nat.le_refl _)
theorem Inv.lstM (I : Inv X pins σ H s) (hH : H l = some (.lst xs)) : xs.length ≤ sizeLine ∧ ∃ (its : List Value) (n : Nat), Vals xs its ∧ xs.length = its.length ∧ s.heap.get? l = some { cls := .type "list", data := .seq its.toArray n } := by
  obtain ⟨z, its, n, r, e⟩ := I.hok l _ hH
  exact ⟨z, its, n, r, r.length, e⟩
theorem notLongL {n : Nat} (h : n ≤ sizeLine) : Builtin.List.listTooLong n = false := by
  unfold Builtin.List.listTooLong
  exact decide_eq_false (by omega)
end
section
variable {X : Cx}
def rAppend : V → List V → Hp → VK → Prop := fun x vs H Q => ∃ l xs y, x = .ref l ∧ vs = [y] ∧ H l = some (.lst xs) ∧ xs.length < sizeLine ∧ Q .non (upd H l (.lst (xs ++ [y])))
theorem mt_append : MtM X "list.append" rAppend := by
  intro pins s σ H x vs v us Q I rx rv h
  obtain ⟨l, xs, y, rfl, rfl, hH, hz, q⟩ := h
  cases rx
  obtain ⟨u, rfl, ru⟩ := rv.one
  obtain ⟨z, its, n, r, hl, e⟩ := I.lstM hH
  refine call_meets F.slot_list_append ⟨_, e, rfl⟩ F.entry_list_append (F.args_list_append_2 _ _) (PySem.list_append l its.toArray n u (by rw [List.size_toArray]; omega)) ⟨e, ?_⟩
  refine ⟨.non, _, I.lset (its' := its ++ [u]) hH e (by simp) (r.append (.cons ru .nil)) ?_, rfl, q⟩
  rw [List.length_append, List.length_singleton]
  omega
def rExtend : V → List V → Hp → VK → Prop := fun x vs H Q => ∃ l b xs zs, x = .ref l ∧ vs = [.ref b] ∧ H l = some (.lst xs) ∧ H b = some (.lst zs) ∧ xs.length + zs.length ≤ sizeLine ∧ Q .non (upd H l (.lst (xs ++ zs)))
theorem mt_extend : MtM X "list.extend" rExtend := by
  intro pins s σ H x vs v us Q I rx rv h
  obtain ⟨l, b, xs, zs, rfl, rfl, hH, hB, hz, q⟩ := h
  cases rx
  obtain ⟨u, rfl, ru⟩ := rv.one
  cases ru
  obtain ⟨z, its, n, r, hl, e⟩ := I.lstM hH
  obtain ⟨z2, its2, n2, r2, hl2, e2⟩ := I.lstM hB
  have hsz : its.toArray.size + its2.toArray.size ≤ sizeLine := by rw [List.size_toArray, List.size_toArray]; omega
  have hlong : ¬ (!its.toArray.isEmpty && Builtin.List.listTooLong (its.toArray.size + its2.toArray.size)) = true := by
    rw [notLongL hsz, Bool.and_false]
    exact Bool.false_ne_true
  refine call_meets F.slot_list_extend ⟨_, e, rfl⟩ F.entry_list_extend (F.args_list_extend_2 _ _)
    (AutoSeq1.list_extend_list_list_0 l its.toArray n b its2.toArray n2 hlong (by rw [List.size_toArray]; omega) (by omega)) ⟨e, e2, ?_⟩
  refine ⟨.non, _, I.lset (its' := its ++ its2) hH e (by simp) (r.append r2) ?_, rfl, q⟩
  rw [List.length_append]
  omega
def rPopAt : V → List V → Hp → VK → Prop := fun x vs H Q => ∃ l xs i k y, x = .ref l ∧ vs = [.int i] ∧ H l = some (.lst xs) ∧ -(2 ^ 63) ≤ i ∧ i < 2 ^ 63 ∧ seqIndex? i xs.length = some k ∧ xs[k]? = some y ∧ Q y (upd H l (.lst (xs.eraseIdx k)))
theorem mt_popAt : MtM X "list.pop" rPopAt := by
  intro pins s σ H x vs v us Q I rx rv h
  obtain ⟨l, xs, i, k, y, rfl, rfl, hH, h1, h2, hk, hy, q⟩ := h
  cases rx
  obtain ⟨u, rfl, ru⟩ := rv.one
  obtain ⟨t, rfl⟩ := ru
  obtain ⟨z, its, n, r, hl, e⟩ := I.lstM hH
  obtain ⟨w, hw, rw'⟩ := r.get hy
  refine call_meets F.slot_list_pop ⟨_, e, rfl⟩ F.entry_list_pop (F.args_list_pop_2 _ _)
    (MeetsSeq.list_pop_at l its.toArray n i t k w (fitsIndex_both h1 h2) (by rw [List.size_toArray, ← hl]; exact hk) (by rw [← Array.getElem?_toList]; exact hw) (by rw [List.size_toArray]; omega)) ⟨e, ?_⟩
  refine ⟨y, _, I.lset (its' := its.eraseIdx k) hH e ?_ (r.eraseIdx k) ?_, rw', q⟩
  · show its.toArray.eraseIdxIfInBounds k = (its.eraseIdx k).toArray
    rw [List.eraseIdxIfInBounds_toArray]
  · have := len_erase xs k
    omega
def rCat : R2 := fun x y H Q => ∃ l b xs zs, x = .ref l ∧ y = .ref b ∧ H l = some (.lst xs) ∧ H b = some (.lst zs) ∧ xs.length + zs.length ≤ sizeLine ∧ ∀ p, H p = none → Q (.ref p) (upd H p (.lst (xs ++ zs)))
theorem op_cat : OpR X (binaryOp .Add) rCat := by
  intro pins s σ H x y v u Q I rx ry h
  obtain ⟨l, b, xs, zs, rfl, rfl, hH, hB, hz, q⟩ := h
  cases rx
  cases ry
  obtain ⟨z, its, n, r, hl, e⟩ := I.lstM hH
  obtain ⟨z2, its2, n2, r2, hl2, e2⟩ := I.lstM hB
  refine PySem.P.add_list e e2 ?_ (by rw [List.size_toArray, List.size_toArray]; omega)
  have ea : its.toArray ++ its2.toArray = (its ++ its2).toArray := by simp
  rw [ea]
  exact ⟨.ref _, _, I.lnew (t' := s.toks) (r.append r2) (by rw [List.length_append]; omega), rfl, q _ I.fresh⟩
def rRep : R2 := fun x y H Q => ∃ l k xs, x = .ref l ∧ y = .int k ∧ H l = some (.lst xs) ∧ -(2 ^ 63) ≤ k ∧ k < 2 ^ 63 ∧ xs.length * k.toNat ≤ sizeLine ∧
  ∀ p, H p = none → Q (.ref p) (upd H p (.lst (List.replicate k.toNat xs).flatten))
theorem len_rep {α : Type} (xs : List α) (k : Nat) : (List.replicate k xs).flatten.length = k * xs.length := by
  induction k with
  | zero => simp
  | succ k ih => rw [List.replicate_succ, List.flatten_cons, List.length_append, ih, Nat.succ_mul, Nat.add_comm]
theorem op_rep : OpR X (binaryOp .Mult) rRep := by
  intro pins s σ H x y v u Q I rx ry h
  obtain ⟨l, k, xs, rfl, rfl, hH, h1, h2, hz, q⟩ := h
  cases rx
  obtain ⟨t, rfl⟩ := ry
  obtain ⟨z, its, n, r, hl, e⟩ := I.lstM hH
  have hlen : its.toArray.size * k.toNat ≤ sizeLine := by rw [List.size_toArray, ← hl]; exact hz
  have hcap : ¬ its.toArray.size * k.toNat > (2 ^ 63 - 1) / 8 := by
    have : (sizeLine : Nat) ≤ (2 ^ 63 - 1) / 8 := by decide
    omega
  have hfit : ¬ (!Builtin.List.listFitsIndex k) = true := by
    rw [fitsIndex_both h1 h2]
    exact Bool.false_ne_true
  have hlong : ¬ Builtin.List.listTooLong (its.toArray.size * k.toNat) = true := by
    rw [notLongL hlen]
    exact Bool.false_ne_true
  have hnew : List.foldl (fun x1 x2 => x1 ++ x2) #[] (List.replicate (if its.toArray.isEmpty = true then 0 else k.toNat) its.toArray) = (List.replicate k.toNat its).flatten.toArray := by
    have f0 : ∀ m : Nat, List.foldl (fun x1 x2 => x1 ++ x2) #[] (List.replicate m its.toArray) = (List.replicate m its).flatten.toArray := fun m => by
      have := foldl_rep its m []
      rw [List.nil_append] at this
      exact this
    rw [f0]
    cases its with
    | nil => simp
    | cons a r' => rw [if_neg (by simp)]
  refine wpAny_binaryOp_repeat_ref (T := "list") (U := "int") (by decide) ⟨_, e, rfl⟩ (fun s' => typeIs_int s' k t) noFill_list_mul F.fills_int_mul F.slot_int_rmul repeat_list F.slot_int_index.lookup
    (call_meets F.slot_int_rmul (typeIs_int s k t) F.entry_int_rmul (F.args_int_rmul_2 _ _) (int___rmul___int_list k t l its.toArray n)
      ⟨e, rfl, ⟨_, e, rfl⟩, call_meets F.slot_list_mul ⟨_, e, rfl⟩ F.entry_list_mul (F.args_list_mul_2 _ _) (AutoListH.list___mul___list_int_3 l its.toArray n k t hfit hcap hlong) ⟨e, ?_⟩⟩)
  rw [hnew]
  exact ⟨.ref _, _, I.lnew (t' := s.toks) (r.rep k.toNat) (by rw [len_rep, Nat.mul_comm]; exact hz), rfl, q _ I.fresh⟩
end
section
variable {prog : Program} {w : World} {A : Around} {E : Value → Shared → Prop} {s : Shared}
set_option maxRecDepth 100000 in
end
section
variable {X : Cx}
end
end L2
namespace L2
open PySem PySem.Spec PyProof.Rows
section
variable {κ : Type} [DecidableEq κ]
def valV (kvs : List (κ × V)) (k : κ) : Option V := (kvs.find? fun kv => decide (kv.1 = k)).map (·.2)
def putK (kvs : List (κ × V)) (k : κ) (v : V) : List (κ × V) :=
  if (kvs.any fun kv => decide (kv.1 = k)) = true then kvs.map (fun kv => if kv.1 = k then (kv.1, v) else kv) else kvs ++ [(k, v)]
theorem valV_pos {p : κ × V} {r : List (κ × V)} {k : κ} (e : p.1 = k) : valV (p :: r) k = some p.2 := by simp [valV, List.find?_cons, e]
theorem valV_neg {p : κ × V} {r : List (κ × V)} {k : κ} (e : ¬ p.1 = k) : valV (p :: r) k = valV r k := by simp [valV, List.find?_cons, e]
theorem valV_any (k : κ) : ∀ kvs : List (κ × V), (kvs.any fun kv => decide (kv.1 = k)) = (valV kvs k).isSome
  | [] => rfl
  | p :: r => by
    rw [List.any_cons]
    by_cases e : p.1 = k
    · simp only [valV_pos e, decide_eq_true e, Bool.true_or, Option.isSome_some]
    · rw [valV_neg e, decide_eq_false e, Bool.false_or]; exact valV_any k r
theorem length_putK (kvs : List (κ × V)) (k : κ) (v : V) : (putK kvs k v).length ≤ kvs.length + 1 := by
  unfold putK
  split
  · rw [List.length_map]; omega
  · rw [List.length_append, List.length_cons, List.length_nil]; omega
theorem putK_new {kvs : List (κ × V)} {k : κ} (v : V) (h : valV kvs k = none) : putK kvs k v = kvs ++ [(k, v)] := by
  unfold putK
  rw [valV_any, h]
  exact if_neg (by decide)
theorem RelO.isSome_eq {o : Option V} {u : Option Value} (r : RelO o u) : o.isSome = u.isSome := by
  cases o with
  | none => cases u with
    | none => rfl
    | some _ => exact (show False from r).elim
  | some _ => cases u with
    | none => exact (show False from r).elim
    | some _ => rfl
theorem KV.val {kvs : List (κ × V)} {vs : List (κ × Value)} (r : KV kvs vs) (k : κ) : RelO (valV kvs k) (valueAt vs k) := by
  unfold KV at r
  induction r with
  | nil => exact True.intro
  | @cons p q ps qs h t ih =>
    obtain ⟨h1, h2⟩ := h
    by_cases e : p.1 = k
    · have e' : q.1 = k := h1.symm.trans e
      have b : valueAt (q :: qs) k = some q.2 := by simp [valueAt, List.find?_cons, e']
      rw [valV_pos e, b]; exact h2
    · have e' : ¬ q.1 = k := fun z => e (h1.trans z)
      have b : valueAt (q :: qs) k = valueAt qs k := by simp [valueAt, List.find?_cons, e']
      rw [valV_neg e, b]; exact ih
theorem KV.any {kvs : List (κ × V)} {vs : List (κ × Value)} (r : KV kvs vs) (k : κ) : (kvs.any fun kv => decide (kv.1 = k)) = vs.any fun kv => decide (kv.1 = k) := by
  unfold KV at r
  induction r with
  | nil => rfl
  | cons h t ih => rw [List.any_cons, List.any_cons, ih, h.1]
theorem KV.repl {kvs : List (κ × V)} {vs : List (κ × Value)} (r : KV kvs vs) (k : κ) {y : V} {u : Value} (ry : RelV y u) :
    KV (kvs.map fun kv => if kv.1 = k then (kv.1, y) else kv) (vs.map fun kv => if kv.1 = k then (kv.1, u) else kv) := by
  unfold KV at r ⊢
  induction r with
  | nil => exact .nil
  | @cons p q ps qs h t ih =>
    rw [List.map_cons, List.map_cons]
    refine .cons ?_ ih
    obtain ⟨h1, h2⟩ := h
    by_cases e : p.1 = k
    · rw [if_pos e, if_pos (h1.symm.trans e)]; exact ⟨h1, ry⟩
    · rw [if_neg e, if_neg (fun z => e (h1.trans z))]; exact ⟨h1, h2⟩
theorem KV.put {kvs : List (κ × V)} {vs : List (κ × Value)} (r : KV kvs vs) (k : κ) {y : V} {u : Value} (ry : RelV y u) : KV (putK kvs k y) (stored vs k u) := by
  unfold putK stored
  rw [r.any k]
  by_cases e : (vs.any fun kv => decide (kv.1 = k)) = true
  · rw [if_pos e, if_pos e]; exact r.repl k ry
  · rw [if_neg e, if_neg e]; exact Paired.snoc r ⟨rfl, ry⟩
theorem KV.length {kvs : List (κ × V)} {vs : List (κ × Value)} (r : KV kvs vs) : kvs.length = vs.length := Paired.length r
end
theorem kV_is {P : Program} {w : World} {k : Key} {u : Value} (r : RelV (kV k) u) : (mixKind P w).is k u = true := by
  cases k with
  | inl i => obtain ⟨t, e⟩ := (show ∃ t, u = Value.int i t from r); subst e; exact mixKind_int P w i t
  | inr x => obtain ⟨t, e⟩ := (show ∃ t, u = Value.str x t from r); subst e; exact mixKind_str P w x t
theorem items_are {P : Program} {w : World} : ∀ {ks : List Key} {us : List Value}, Vals (ks.map kV) us → ItemsAre (mixKind P w) ks us
  | [], _, r => by rw [List.map_nil] at r; cases r; exact .nil
  | k :: ks, _, r => by
    rw [List.map_cons] at r
    cases r with
    | cons h t => exact .cons (kV_is h) (items_are t)
abbrev KT (H : Hp) : List (List Key × V) → List (List Key × Addr × Value) → Prop := Paired fun p q => p.1 = q.1 ∧ H q.2.1 = some (.tup (p.1.map kV)) ∧ RelV p.2 q.2.2
theorem KT.val {H : Hp} {kvs : List (List Key × V)} {xs : List (List Key × Addr × Value)} (r : KT H kvs xs) (k : List Key) : RelO (valV kvs k) ((atKey xs k).map (·.2)) := by
  induction r with
  | nil => exact True.intro
  | @cons p q ps qs h t ih =>
    obtain ⟨h1, _, h2⟩ := h
    by_cases e : p.1 = k
    · have e' : q.1 = k := h1.symm.trans e
      have b : atKey (q :: qs) k = some q.2 := by simp [atKey, List.find?_cons, e']
      rw [valV_pos e, b]; exact h2
    · have e' : ¬ q.1 = k := fun z => e (h1.trans z)
      have b : atKey (q :: qs) k = atKey qs k := by simp [atKey, List.find?_cons, e']
      rw [valV_neg e, b]; exact ih
theorem KT.repl {H : Hp} {kvs : List (List Key × V)} {xs : List (List Key × Addr × Value)} (r : KT H kvs xs) (k : List Key) {y : V} {u : Value} (ry : RelV y u) :
    KT H (kvs.map fun kv => if kv.1 = k then (kv.1, y) else kv) (xs.map (putAt k u)) := by
  induction r with
  | nil => exact .nil
  | @cons p q ps qs h t ih =>
    rw [List.map_cons, List.map_cons]
    refine .cons ?_ ih
    obtain ⟨h1, h2, h3⟩ := h
    unfold putAt
    by_cases e : p.1 = k
    · rw [if_pos e, if_pos (h1.symm.trans e)]; exact ⟨h1, h2, ry⟩
    · rw [if_neg e, if_neg (fun z => e (h1.trans z))]; exact ⟨h1, h2, h3⟩
theorem KT.put {H : Hp} {kvs : List (List Key × V)} {xs : List (List Key × Addr × Value)} (r : KT H kvs xs) (k : List Key) {b : Addr} {y : V} {u : Value} (hb : H b = some (.tup (k.map kV))) (ry : RelV y u) :
    KT H (putK kvs k y) (storedH xs k b u) := by
  have e : (kvs.any fun kv => decide (kv.1 = k)) = (atKey xs k).isSome := by
    rw [valV_any, (r.val k).isSome_eq, Option.isSome_map]
  unfold putK storedH
  rw [e]
  by_cases q : (atKey xs k).isSome = true
  · rw [if_pos q, if_pos q]; exact r.repl k ry
  · rw [if_neg q, if_neg q]; exact Paired.snoc r ⟨rfl, hb, ry⟩
theorem KT.keeps {H H' : Hp} {kvs : List (List Key × V)} {xs : List (List Key × Addr × Value)} (r : KT H kvs xs) (ht : ∀ b ys, H b = some (.tup ys) → H' b = some (.tup ys)) : KT H' kvs xs :=
  Paired.mapP r fun _ _ z => ⟨z.1, ht _ _ z.2.1, z.2.2⟩
section
variable {P : Program} {w : World} {H : Hp} {h : Heap} {a : Addr}
theorem rd_of {u : HO} (ok : HOk P w H h) (e : Rd H a u) : ObjOk P w H h a u := e.ok ok
theorem dk_rd {kvs : List (Key × V)} (ok : HOk P w H h) (e : Rd H a (.dK kvs)) : kvs.length ≤ sizeLine ∧ (a == sysModules) = false ∧ ∃ vs, KV kvs vs ∧ h.DictOf (mixKind P w) a vs :=
  show ObjOk P w H h a (.dK kvs) from rd_of ok e
theorem dk_of {kvs : List (Key × V)} (ok : HOk P w H h) (e : H a = some (.dK kvs)) : kvs.length ≤ sizeLine ∧ (a == sysModules) = false ∧ ∃ vs, KV kvs vs ∧ h.DictOf (mixKind P w) a vs := dk_rd ok (.inl e)
theorem key_of {ks : List Key} (ok : HOk P w H h) (e : H a = some (.tup (ks.map kV))) : (tupleKind (mixKind P w)).is h ks a := by
  obtain ⟨_, its, r, o, h1, h2, n, h3⟩ := (show ObjOk P w H h a (.tup (ks.map kV)) from ok a _ e)
  exact ⟨o, its.toArray, n, h1, h2, h3, by simpa using items_are r⟩
theorem dt_rd {kvs : List (List Key × V)} (ok : HOk P w H h) (e : Rd H a (.dT kvs)) : kvs.length ≤ sizeLine ∧ (a == sysModules) = false ∧
    ∃ xs, KT H kvs xs ∧ h.DictOfH (tupleKind (mixKind P w)) a xs := by
  obtain ⟨z, y, xs, r, o, es, ep, h1, h2, h3, h4, h5⟩ := (show ObjOk P w H h a (.dT kvs) from rd_of ok e)
  refine ⟨z, y, xs, r, o, es, ep, h1, h2, h3, h4, fun x hx => ?_, h5⟩
  have all : ∀ {l : List (List Key × V)} {m : List (List Key × Addr × Value)}, KT H l m → ∀ x ∈ m, (tupleKind (mixKind P w)).is h x.1 x.2.1 := by
    intro l m q
    induction q with
    | nil => intro x hx; exact nomatch hx
    | @cons p q ps qs hq t ih =>
      intro x hx
      rcases List.mem_cons.mp hx with e | hx
      · subst e
        exact key_of ok (by rw [← hq.1]; exact hq.2.1)
      · exact ih x hx
  exact all r x hx
theorem dt_of {kvs : List (List Key × V)} (ok : HOk P w H h) (e : H a = some (.dT kvs)) : kvs.length ≤ sizeLine ∧ (a == sysModules) = false ∧
    ∃ xs, KT H kvs xs ∧ h.DictOfH (tupleKind (mixKind P w)) a xs := dt_rd ok (.inl e)
end
def DGet (H : Hp) (a : Addr) (y : V) (r : Option V) : Prop :=
  (∃ kvs k, Rd H a (.dK kvs) ∧ y = kV k ∧ r = valV kvs k) ∨ ∃ kvs k b, Rd H a (.dT kvs) ∧ y = .ref b ∧ H b = some (.tup (k.map kV)) ∧ r = valV kvs k
def DPut (H : Hp) (a : Addr) (y v : V) (H' : Hp) : Prop :=
  (∃ kvs k, H a = some (.dK kvs) ∧ y = kV k ∧ kvs.length < sizeLine ∧ H' = upd H a (.dK (putK kvs k v))) ∨
  ∃ kvs k b, H a = some (.dT kvs) ∧ y = .ref b ∧ H b = some (.tup (k.map kV)) ∧ kvs.length < sizeLine ∧ H' = upd H a (.dT (putK kvs k v))
theorem DGet.k {H : Hp} {a : Addr} {kvs : List (Key × V)} {k : Key} (e : H a = some (.dK kvs)) : DGet H a (kV k) (valV kvs k) := .inl ⟨kvs, k, .inl e, rfl, rfl⟩
theorem DPut.k {H : Hp} {a : Addr} {kvs : List (Key × V)} {k : Key} {v : V} (e : H a = some (.dK kvs)) (hl : kvs.length < sizeLine) : DPut H a (kV k) v (upd H a (.dK (putK kvs k v))) := .inl ⟨kvs, k, e, rfl, hl, rfl⟩
section
variable {X : Cx} {pins : List (Addr × Obj)} {σ : St} {H : Hp} {s : Shared} {a : Addr} {y v : V} {u r : Value} {o : Option V} {A : Around} {E : Value → Shared → Prop}
theorem Inv.big (I : Inv X pins σ H s) : sysModules < s.heap.objs.size := by
  have h : mainGlobals < s.heap.objs.size := (I.mod.glob.keeps I.bk).lt
  exact Nat.lt_trans (by decide) h
theorem d_in {Q : Value → Shared → Prop} (hu : A.units + 1 < cLine) (I : Inv X pins σ H s) (g : DGet H a y o) (ry : RelV y u) (h : ∀ s', Inv X pins σ H s' → Q (.bool o.isSome) s') :
    wpAny (model X.prog X.w) A (compareOp .In u (.ref a)) Q E s := by
  rcases g with ⟨kvs, k, e, ey, l⟩ | ⟨kvs, k, b, e, ey, eb, l⟩
  · subst ey
    obtain ⟨z, hd, vs, rel, dd⟩ := dk_rd I.hok e
    refine wpAny_in_of (kV_is ry) hd dd.mapOf ?_
    rw [← (rel.val k).isSome_eq, ← l]
    exact h _ (I.tok _)
  · subst ey
    cases (show u = Value.ref b from ry)
    obtain ⟨z, hd, xs, rel, dd⟩ := dt_rd I.hok e
    refine wpAny_in_heap (tupleKind_room_in1 hu) (key_of I.hok eb) hd dd ?_
    have q := (rel.val k).isSome_eq
    rw [Option.isSome_map] at q
    rw [← q, ← l]
    exact h _ (I.tok _)
theorem d_notIn {Q : Value → Shared → Prop} (hu : A.units + 1 < cLine) (I : Inv X pins σ H s) (g : DGet H a y o) (ry : RelV y u) (h : ∀ s', Inv X pins σ H s' → Q (.bool (!o.isSome)) s') :
    wpAny (model X.prog X.w) A (compareOp .NotIn u (.ref a)) Q E s := by
  rcases g with ⟨kvs, k, e, ey, l⟩ | ⟨kvs, k, b, e, ey, eb, l⟩
  · subst ey
    obtain ⟨z, hd, vs, rel, dd⟩ := dk_rd I.hok e
    refine wpAny_notIn_of (kV_is ry) hd dd.mapOf ?_
    rw [← (rel.val k).isSome_eq, ← l]
    exact h _ (I.tok _)
  · subst ey
    cases (show u = Value.ref b from ry)
    obtain ⟨z, hd, xs, rel, dd⟩ := dt_rd I.hok e
    refine wpAny_notIn_heap (tupleKind_room_in1 hu) (key_of I.hok eb) hd dd ?_
    have q := (rel.val k).isSome_eq
    rw [Option.isSome_map] at q
    rw [← q, ← l]
    exact h _ (I.tok _)
theorem d_write {h' : Heap} {t' : Nat} {ob : HO} (I : Inv X pins σ H s) (mu : Mut (H a)) (hs : Heap.SameBut a s.heap h') (he : ∃ q, h'.get? a = some q) (new : ObjOk X.prog X.w (upd H a ob) h' a ob) :
    Inv X pins σ (upd H a ob) { s with heap := h', toks := t' } :=
  I.write (x := a) (e := a) mu (.inl rfl) (fun b q hb z => (hs.2 b hb).trans z) he new
theorem dk_new {P : Program} {w : World} {H' : Hp} {h' : Heap} {kvs : List (Key × V)} {vs : List (Key × Value)} (z : kvs.length ≤ sizeLine) (hd : (a == sysModules) = false) (rel : KV kvs vs) (dd : h'.DictOf (mixKind P w) a vs) :
    ObjOk P w H' h' a (.dK kvs) := ⟨z, hd, vs, rel, dd⟩
theorem d_setItem {H' : Hp} {Q : Unit → Shared → Prop} (hu : A.units + 1 < cLine) (I : Inv X pins σ H s) (g : DPut H a y v H') (ry : RelV y u) (rv : RelV v r) (h : ∀ s', Inv X pins σ H' s' → Q () s') :
    wpAny (model X.prog X.w) A (setItem (.ref a) u r) Q E s := by
  rcases g with ⟨kvs, k, e, ey, l, eH⟩ | ⟨kvs, k, b, e, ey, eb, l, eH⟩
  · subst ey eH
    obtain ⟨z, hd, vs, rel, dd⟩ := dk_of I.hok e
    have hz : vs.length ≤ sizeLine := by rw [← rel.length]; exact z
    have hl : (putK kvs k v).length ≤ sizeLine := by have := length_putK kvs k v; omega
    refine wpAny_setItem_pairs (hsz := hz) (kV_is ry) dd fun h' dd' hs => h _ ?_
    have he : ∃ q, h'.get? a = some q := let ⟨q, _, _, hq, _⟩ := dd'; ⟨q, hq⟩
    exact d_write I (by rw [e]; exact True.intro) hs he (dk_new hl hd (rel.put k rv) dd')
  · subst ey eH
    cases (show u = Value.ref b from ry)
    obtain ⟨z, hd, xs, rel, dd⟩ := dt_of I.hok e
    have hz : xs.length ≤ sizeLine := by rw [← Paired.length rel]; exact z
    have hl : (putK kvs k v).length ≤ sizeLine := by have := length_putK kvs k v; omega
    refine wpAny_setItem_heap (hsz := hz) (tupleKind_room_in1 hu) (key_of I.hok eb) dd fun h' dd' hs => h _ ?_
    obtain ⟨q, es, ep, hq, h2, h3, h4, _, h5⟩ := dd'
    refine d_write I (by rw [e]; exact True.intro) hs ⟨q, hq⟩ ⟨hl, hd, _, (rel.put k eb rv).keeps fun c ys ec => ?_, q, es, ep, hq, h2, h3, h4, h5⟩
    rw [upd_ne (ne_of ec e (fun z => nomatch z))]
    exact ec
end
section
variable {X : Cx} {pins : List (Addr × Obj)} {σ : St} {H : Hp} {s : Shared} {a : Addr} {kvs : List (Key × V)} {k : Key} {u : Value} {A : Around} {E : Value → Shared → Prop}
end
def tDIn (ty td : TE) : TE := fun σ H Q => ty σ H fun y H1 => td σ H1 fun x H2 => ∃ a o, x = .ref a ∧ DGet H2 a y o ∧ Q (.bl o.isSome) H2
def tDNotIn (ty td : TE) : TE := fun σ H Q => ty σ H fun y H1 => td σ H1 fun x H2 => ∃ a o, x = .ref a ∧ DGet H2 a y o ∧ Q (.bl (!o.isSome)) H2
def sDPut (td ty tv : TE) : TS := fun D σ H => tv σ H fun v H1 => td σ H1 fun x H2 => ty σ H2 fun y H3 => ∃ a H4, x = .ref a ∧ DPut H3 a y v H4 ∧ D.nx σ H4
section
variable {X : Cx} {o i e value : Expr} {pos pos' tpos : Pos} {td ty tv : TE}
theorem pc_din (hu : X.A.units + 1 < cLine) (hi : PE X i ty) (ho : PE X o td) : PC X .In i o (tDIn ty td) := by
  intro pins s σ H Q I h
  refine thn (hi pins s σ H _ I h) fun iv s1 ⟨y, H1, I1, ry, q1⟩ => thn (ho pins s1 σ H1 _ I1 q1) fun u s2 ⟨x, H2, I2, rx, a, ov, ex, g, q2⟩ => ?_
  subst ex
  obtain rfl : u = Value.ref a := rx
  exact d_in hu I2 g ry fun s3 I3 => ⟨.bl ov.isSome, H2, I3, rfl, q2⟩
theorem pc_dnotin (hu : X.A.units + 1 < cLine) (hi : PE X i ty) (ho : PE X o td) : PC X .NotIn i o (tDNotIn ty td) := by
  intro pins s σ H Q I h
  refine thn (hi pins s σ H _ I h) fun iv s1 ⟨y, H1, I1, ry, q1⟩ => thn (ho pins s1 σ H1 _ I1 q1) fun u s2 ⟨x, H2, I2, rx, a, ov, ex, g, q2⟩ => ?_
  subst ex
  obtain rfl : u = Value.ref a := rx
  exact d_notIn hu I2 g ry fun s3 I3 => ⟨.bl (!ov.isSome), H2, I3, rfl, q2⟩
theorem ps_dput (hu : X.A.units + 1 < cLine) (ho : PE X o td) (hi : PE X i ty) (hv : PE X value tv) (hs : swapsWith value (some (.Subscript o i pos')) pos.line X.env = pure false) :
    PS X (.Assign [.Subscript o i pos'] value pos) (sDPut td ty tv) := by
  intro pins s σ H D I h
  refine wpAny_Assign_Subscript (thn (hv pins s σ H _ I h) fun r s1 ⟨v, H1, I1, rv, q1⟩ => thn (ho pins s1 σ H1 _ I1 q1) fun u s2 ⟨x, H2, I2, rx, q2⟩ => thn (hi pins s2 σ H2 _ I2 q2) fun iv s3 ⟨y, H3, I3, ry, a, H4, ex, g, q3⟩ => ?_) hs
  subst ex
  obtain rfl : u = Value.ref a := rx
  exact d_setItem hu I3 g ry rv fun s4 I4 => ⟨σ, H4, I4, q3⟩
end
theorem dk_empty {P : Program} {w : World} {H : Hp} (h : Heap) (hb : sysModules < h.objs.size) : ObjOk P w H (h.push { cls := .type "dict", data := .dict #[] }) h.objs.size (.dK []) :=
  ⟨Nat.zero_le _, beq_eq_false_iff_ne.mpr (Ne.symm (Nat.ne_of_lt hb)), [], .nil, Heap.DictOf.new h⟩
def tDNewK : TE := fun _ H Q => ∀ p, H p = none → Q (.ref p) (upd H p (.dK []))
section
variable {X : Cx} {pos : Pos}
theorem pe_dnewK : PE X (.Dict [] [] pos) tDNewK := fun pins s σ H Q I h =>
  wpAny_Dict_empty ⟨.ref s.heap.objs.size, _, I.laid (a := s.heap.objs.size) (o := .dK []) (t' := s.toks) (fun _ _ q => Heap.get?_push_of_some _ q) (Nat.le_refl _) (dk_empty s.heap I.big), rfl, h _ (I.hok.fresh (Nat.le_refl _))⟩
end
section
variable {X : Cx} {pins : List (Addr × Obj)} {σ : St} {H : Hp} {s : Shared} {a : Addr} {y d : V} {u r : Value} {o : Option V} {A : Around} {E : Value → Shared → Prop}
end
section
variable {X : Cx} {o e f : Expr} {apos cpos : Pos} {td ty tx : TE}
end
section
variable {X : Cx} {pins : List (Addr × Obj)} {σ : St} {H : Hp} {s : Shared} {a : Addr} {kvs : List (Key × V)} {A : Around} {E : Value → Shared → Prop}
end
section
variable {X : Cx} {pins : List (Addr × Obj)} {σ : St} {H : Hp} {s : Shared} {a : Addr} {y : V} {u : Value} {A : Around} {E : Value → Shared → Prop}
end
end L2
namespace Att
open PySem PySem.W PySem.Calls PyProof.Rows
theorem ints_of_wellAll {P : Params} {h : Heap} : ∀ (ns : List Int) (vs : List Value), WellAll P h vs (ns.map WData.int) → IntsAre vs ns := by
  intro ns
  induction ns with
  | nil =>
    intro vs w
    rw [List.map_nil] at w
    cases w
    exact .nil
  | cons n ns ih =>
    intro vs w
    rw [List.map_cons] at w
    cases w with
    | cons a b =>
      cases a
      exact .cons _ _ (ih _ b)
theorem script_of {l : OpenLaw} {n : Nat} (hn : l.most = some n) {P : Params} {h : Heap} {args : List WData} {vals : List Value}
    (hpre : l.row.toRowW.claim.pre args = true) (hwl : WellAll P h vals args) :
    ∃ a vs ns, vals = [Value.ref a] ∧ args = [WData.list (ns.map WData.int)] ∧ h.get? a = some { cls := .type "list", data := .seq vs.toArray } ∧ IntsAre vs ns ∧ ns.length ≤ n := by
  have hsh : WShape.hasAll [] args [.list .int] = true := (pre_splitW hpre).1
  have hc : l.pre.holds [] { args := args } = true := (pre_splitW hpre).2
  obtain ⟨d, r, rfl, h1, h2⟩ := hasAllW_cons hsh
  obtain rfl := hasAllW_nil h2
  obtain ⟨xs, rfl, h3⟩ := hasW_list h1
  obtain ⟨ns, rfl⟩ := items_int h3
  have hlen : ns.length ≤ n := by
    unfold OpenLaw.pre at hc
    have h4 : (WTm.not (.lt (.lit (.int (n : Int))) (.len (.arg 0)))).holds [] { args := [.list (ns.map .int)] } = true := by
      have h4 := (holds_andW hc).1
      rw [hn] at h4
      exact h4
    have h5 := condW_of h4 (w_not (w_lt w_lit (w_len_list (w_arg rfl))))
    rw [List.length_map] at h5
    refine Nat.le_of_not_lt fun q => ?_
    have q' : (n : Int) < ((ns.length : Nat) : Int) := by omega
    first
      | (rw [decide_eq_true q'] at h5; exact absurd h5 (by decide))
      | (simp at h5; omega)
  cases hwl with
  | cons w1 w2 =>
    cases w2
    cases w1 with
    | list ho hall => exact ⟨_, _, ns, rfl, rfl, ho, ints_of_wellAll ns _ hall, hlen⟩
theorem post_true (l : OpenLaw) (args : List WData) : l.row.toRowW.claim.post args (.bool true) args = true :=
  postW_of (r := l.row.toRowW) (X := (true == true))
    (show WShape.has [] (.bool true) .bool = true by first | rfl | decide | simp [WShape.has, WShape.arms, WShape.armsAll])
    (show (WTm.eq .res (.lit (.bool true))).value [] { args := args, res := some (.bool true), after := args } = some (.bool (true == true)) from w_eq_bool (w_res rfl) w_lit) rfl
theorem attach_call {l : OpenLaw} {n : Nat} {q : Program} {loose : List Str} {XP : (Str → Option Value) → Heap → Prop} {YP : World → Heap → Prop} {d : DefRec}
    (hn : l.most = some n) (hdf : d.params.defaults = [])
    (call : ∀ (w : World) (s₀ s₁ : Shared) (mg mb : Str → Option Value) (fa : Addr) (o : Obj) (pm cd doc : Value) (a : Addr) (vs : List Value) (ns : List Int),
      Ground q loose [] XP w s₀ mg mb s₁.heap → YP w s₁.heap →
      s₁.heap.get? fa = some o → o.data = .func (docDef d.name d.params d.body d.scope pm cd doc) → s₁.heap.CodeRec cd d.name → mg d.name = some (.ref fa) →
      s₁.heap.get? a = some { cls := .type "list", data := .seq vs.toArray } → IntsAre vs ns → ns.length ≤ n → s₁.gens = #[] →
      codeAny (model l.prog w) callerA (.call (.ref fa) ⟨[.ref a], []⟩) (fun r s' => r = .ok (.ret (.bool true)) ∧ OldK s₁.heap s'.heap ∧ s'.os = s₁.os ∧ AllBare s'.gens) s₁) :
    WalkO q loose XP YP l.row.toRowW d [] (fun f vs => PySem.call f vs) := by
  intro w s₀ s₁ mg mb G Y fa o pm cd doc dV kV ho hd hcd hD hmg hg args vals as hpre hlay hrd hwl hlo
  obtain rfl : dV = .none := Dflts.none hD hdf
  obtain rfl : kV = .none := Dflts.noKw hD
  obtain ⟨a, vs, ns, rfl, rfl, hobj, hints, hlen⟩ := script_of hn hpre hwl
  refine enter_call (codeAny_mono (call w s₀ s₁ mg mb fa o pm cd doc a vs ns G Y ho (fd_plain hd) hcd hmg hobj hints hlen hg) fun r s' hq => ?_)
  obtain ⟨rfl, h2, h3, h4⟩ := hq
  exact ⟨.inl ⟨.bool true, .bool true, [], rfl, fun _ => rfl, .bool true, post_true l _, fun _ => ⟨List.Pairwise.nil, fun _ hm => (nomatch hm)⟩⟩, h2, h3, h4⟩
section
variable {prog : Program} {w : World} {A : Around} {E : Value → Shared → Prop} {s : Shared} {K : Frag}
end
end Att
namespace L2
open PySem PySem.Spec PyProof.Rows
theorem vals_ints : ∀ {vs : List Value} {ns : List Int}, IntsAre vs ns → Vals (ns.map V.int) vs
  | _, _, .nil => .nil
  | _, _, .cons n t h => .cons ⟨t, rfl⟩ (vals_ints h)
def Only (H : Hp) : Prop := ∀ b, H b = none ∨ ∃ o xs, H b = some (.frz o (.lst xs))
theorem law_call {P : Program} {w : World} {K : PySem.W.Frag} {mg mb : Str → Option Value} {CX : CXT} {k : Nat} {fa a : Addr} {fd : FuncData} {x : Str} {sp : Sp} {s₁ : Shared} {vs : List Value} {ns : List Int}
    (KX : K.In s₁.heap) (hns : s₁.heap.Ns mainGlobals mg) (hb : s₁.heap.Ns builtinsNs mb) (hbb : ∀ x : Str, x ≠ "__name__" → mb x = bootBuiltins x) (hlim : s₁.heap.NoLimit) (hg : s₁.gens = #[])
    (ha : s₁.heap.get? a = some { cls := .type "list", data := .seq vs.toArray }) (hi : IntsAre vs ns) (hl : ns.length ≤ sizeLine) (hr : Room k callerA)
    (F : ∀ base : Heap, K.In base → base.Ns mainGlobals mg → FnOk P w K mg base CX k fa fd [x] sp) (hbind : ∀ (s : Shared) (u : Value), BindsTo s fd ⟨[u], []⟩ [(x, u)])
    (hsp : ∀ H : Hp, Only H → SqL K H a (ns.map V.int) → sp [.ref a] H (fun v _ => v = .bl true) fun _ _ _ => False)
    (hCX : ∀ H e s', CX [] H s₁ (fun _ _ _ => False) e s' → False) :
    codeAny (model P w) callerA (.call (.ref fa) ⟨[.ref a], []⟩) (fun r s' => r = .ok (.ret (.bool true)) ∧ OldK s₁.heap s'.heap ∧ s'.os = s₁.os ∧ AllBare s'.gens) s₁ := by
  have rv := vals_ints hi
  have lenV := hi.length
  have core : ∀ H : Hp, Only H → SqL K H a (ns.map V.int) → HOk P w H s₁.heap → (∀ b, H b ≠ none → b = a) → (H a ≠ none → K.lookup a = none) →
      codeAny (model P w) callerA (.call (.ref fa) ⟨[.ref a], []⟩) (fun r s' => r = .ok (.ret (.bool true)) ∧ OldK s₁.heap s'.heap ∧ s'.os = s₁.os ∧ AllBare s'.gens) s₁ := by
    intro H hO hS hok hA hK
    have base_of : ∀ {b : Addr} {o : Obj}, s₁.heap.get? b = some o → H b = none → (hidT s₁.heap H).get? b = some o := fun e n => hidT_get e n
    have noA : ∀ {b : Addr} {o : Obj} {es : Array DictEntry} {ep : Nat}, s₁.heap.get? b = some o → o.data = .dict es ep → H b = none := fun {b o es ep} e d => by
      cases q : H b with
      | none => rfl
      | some u =>
        have e' : b = a := hA b (by rw [q]; simp)
        subst e'
        rw [ha] at e; cases e
        have d' : Data.seq vs.toArray _ = Data.dict es ep := d
        cases d'
    have nsK : ∀ {b : Addr} {m : Str → Option Value}, s₁.heap.Ns b m → (hidT s₁.heap H).Ns b m := fun {b m} ⟨o, es, ep, e, d, r⟩ => ⟨o, es, ep, base_of e (noA e d), d, r⟩
    have hKb : K.In (hidT s₁.heap H) := fun b o e => base_of (KX b o e) (by
      cases q : H b with
      | none => rfl
      | some u =>
        have e' : b = a := hA b (by rw [q]; simp)
        subst e'
        rw [hK (by rw [q]; simp)] at e; cases e)
    have hM : Mod K mg (hidT s₁.heap H) := ⟨hKb, nsK hns, ⟨mb, nsK hb, hbb⟩, let ⟨mc, h1, h2⟩ := hlim; ⟨mc, nsK h1, h2⟩⟩
    have e0 : Env0 P w K mg (hidT s₁.heap H) callerA [] s₁ H := ⟨rfl, hM, fun b o e => of_hidT e, Nat.le_of_eq (hidT_size _ _), trivial, fun b hb => absurd (show b ∈ ([] : List Addr) from hb) (by simp), hok, .of_eq hg⟩
    refine codeAny_mono ((F _ hKb (nsK hns)).run callerA [] s₁ H ⟨[.ref a], []⟩ [.ref a] [.ref a] _ _ hr e0 (hbind s₁ (.ref a)) (.cons rfl .nil) (hsp H hO hS)) fun r s' h => ?_
    cases r with
    | error e => exact (hCX H e s' h).elim
    | ok fl =>
      cases fl with
      | next => exact False.elim h
      | brk => exact False.elim h
      | cont => exact False.elim h
      | ret u =>
        obtain ⟨v, H', os, bare, un, hok', r', q⟩ := h
        have q' : v = .bl true := q
        subst q'
        obtain rfl : u = Value.bool true := r'
        refine ⟨rfl, OldK.of_keep fun b o e => ?_, os, bare⟩
        cases q : H b with
        | none => exact un.keep b o e q (by intro z; exact absurd (show b ∈ ([] : List Addr) from z) (by simp)) (by simp)
        | some u =>
          rcases hO b with z | ⟨ob, xs, z⟩
          · rw [q] at z; cases z
          · have z2 := un.frzs b ob _ z
            obtain ⟨e1, _⟩ := hok b _ z
            obtain ⟨e2, _⟩ := hok' b _ z2
            rw [e] at e1; cases e1
            exact e2
  cases hk : K.lookup a with
  | some o =>
    have e := KX a o hk
    rw [ha] at e
    cases e
    refine core (fun _ => none) (fun _ => .inl rfl) (.inr ⟨_, vs.toArray, _, hk, rfl, rfl, rfl, by rw [List.size_toArray, lenV]; exact hl, by simpa using rv⟩) (fun b u z => by have z' : (none : Option HO) = some u := z; cases z') (fun b z => absurd rfl z) fun z => absurd rfl z
  | none =>
    refine core (fun b => if b = a then some (.frz { cls := .type "list", data := .seq vs.toArray } (.lst (ns.map V.int))) else none) (fun b => ?_) (.inl (.inr ⟨{ cls := .type "list", data := .seq vs.toArray }, if_pos rfl⟩)) (fun b u z => ?_) (fun b z => ?_) fun _ => hk
    · by_cases hb : b = a
      · exact .inr ⟨_, _, if_pos hb⟩
      · exact .inl (if_neg hb)
    · by_cases hb : b = a
      · have z' := (if_pos hb).symm.trans z
        cases z'
        subst hb
        exact ⟨ha, by rw [List.length_map]; exact hl, vs, _, rv, ha⟩
      · have z' := (if_neg hb).symm.trans z
        cases z'
    · by_cases hb : b = a
      · exact hb
      · exact absurd (if_neg hb) z
end L2
namespace L2
open PySem PySem.Spec PyProof.Rows
theorem walk_of {l : PySem.W.OpenLaw} {n k : Nat} {q : Program} {loose : List Str} {XP : (Str → Option Value) → Heap → Prop} {YP : World → Heap → Prop} {d : DefRec} {K : Params → PySem.W.Frag} {CX : World → CXT} {sp : World → Sp} {x : Str}
    (hn : l.most = some n) (hn2 : n ≤ sizeLine) (hdf : d.params.defaults = []) (hr : Room k callerA)
    (hY : ∀ (w : World) (h : Heap), YP w h → (K w.params).In h)
    (F : ∀ (w : World) (mg : Str → Option Value) (fa : Addr) (h : Heap), (K w.params).In h → h.Ns mainGlobals mg → mg d.name = some (.ref fa) →
      ∃ fd : FuncData, (∀ (s : Shared) (u : Value), BindsTo s fd ⟨[u], []⟩ [(x, u)]) ∧
        ∀ base : Heap, (K w.params).In base → base.Ns mainGlobals mg → FnOk l.prog w (K w.params) mg base (CX w) k fa fd [x] (sp w))
    (hsp : ∀ (w : World) (H : Hp) (a : Addr) (ns : List Int), ns.length ≤ n → Only H → SqL (K w.params) H a (ns.map V.int) → sp w [.ref a] H (fun v _ => v = .bl true) fun _ _ _ => False)
    (hCX : ∀ (w : World) (H : Hp) (s : Shared) (e : Value) (s' : Shared), CX w [] H s (fun _ _ _ => False) e s' → False) :
    PySem.W.WalkO q loose XP YP l.row.toRowW d [] (fun f vs => PySem.call f vs) := by
  refine Att.attach_call hn hdf fun w s₀ s₁ mg mb fa o pm cd doc a vs ns G Y ho hd hcd hmg hobj hints hlen hg => ?_
  have KX := hY w _ Y
  obtain ⟨fd, hb, hF⟩ := F w mg fa _ KX G.T.g hmg
  exact law_call KX G.T.g G.T.b G.T.builtins G.T.nolimit hg hobj hints (Nat.le_trans hlen hn2) hr hF hb (fun H hO hS => hsp w H a ns hlen hO hS) fun H e s' => hCX w H s₁ e s'
end L2
namespace L2
open PySem PySem.Spec PyProof.Rows
def defArgs (s : Stmt) : Arguments := match s with
  | .FunctionDef _ a _ _ _ _ _ _ _ _ => a
  | _ => { posonlyargs := [], args := [], vararg := none, kwonlyargs := [], kw_defaults := [], kwarg := none, defaults := [] }
def defBody (s : Stmt) : List Stmt := match s with
  | .FunctionDef _ _ b _ _ _ _ _ _ _ => b
  | _ => []
def defScope (s : Stmt) : Scope := match s with
  | .FunctionDef _ _ _ _ _ _ sc _ _ _ => sc
  | _ => { kind := .function, names := [], isGenerator := false, isCoroutine := false }
abbrev CX0 : CXT := fun _ _ _ _ _ _ => False
abbrev E0 : XK := fun _ _ _ => False
theorem pass0 {X : Cx} : Passes CX0 X E0 := fun _ _ _ _ _ _ _ h => h.elim
structure Fun (K : PySem.W.Frag) (x qual : Str) (st : Stmt) (f : Addr) (fd : FuncData) : Prop where
  ex : ∃ (oc : Value) (od : Option Addr) (kV doc pm : Value) (an : Option Addr) (cdv ct : Value) (osl : Array (Option Value)),
    fd = PySem.W.fnOf x qual (defArgs st) (defBody st) (defScope st) .none kV doc pm an cdv ct ∧ K.lookup f = some ⟨oc, od, .func fd, osl⟩ ∧ PySem.W.codeIn K cdv qual = true
  kp : PySem.W.keepIn K (.ref f) = true
section
variable {P : Program} {w : World} {K : PySem.W.Frag} {mg : Str → Option Value} {base : Heap}
theorem Fun.ok {x qual : Str} {st : Stmt} {f : Addr} {fd : FuncData} {N ps : List Str} {k : Nat} {sp : Sp} (F : Fun K x qual st f fd) (S : FnScope N ps (defScope st)) (len : ∀ vs H Q E, sp vs H Q E → vs.length = ps.length)
    (hbody : ∀ (cdv : Value) (A : Around) (outer : List Env) (s : Shared) (H : Hp) (vs : List V) (Q : VK) (E : XK), Room k (A.deeper (envOfC qual (defScope st) s.heap.objs.size f cdv)) → sp vs H Q E →
      ∃ t, PSs (cxOf CX0 P w K mg base N qual (defScope st) f cdv A outer s H E).nox (defBody st) t ∧ t { nx := fun _ H' => Q .non H', rt := Q } (start N vs) H) : FnOk P w K mg base CX0 (k + 1) f fd ps sp := by
  obtain ⟨oc, od, kV, doc, pm, an, cdv, ct, osl, rfl, lk, hcd⟩ := F.ex
  refine fn_of lk hcd S len fun A outer s H vs Q E hr hsp => ?_
  obtain ⟨t, h, q⟩ := hbody cdv A outer s H vs Q E hr hsp
  exact ⟨t, h.nox, q⟩
theorem Fun.binds {x qual : Str} {st : Stmt} {f : Addr} {fd : FuncData} {ps : List Str} (F : Fun K x qual st f fd)
    (h : ∀ (kV doc pm : Value) (an : Option Addr) (cdv ct : Value) (us : List Value), us.length = ps.length → bindArgs (PySem.W.fnOf x qual (defArgs st) (defBody st) (defScope st) .none kV doc pm an cdv ct) ⟨us, []⟩ = pure (ps.zip us)) : Binds K fd ps [] := by
  obtain ⟨oc, od, kV, doc, pm, an, cdv, ct, osl, rfl, lk, hcd⟩ := F.ex
  exact .all (h kV doc pm an cdv ct)
theorem fun_mk {x qual : Str} {st : Stmt} {f : Addr} {oc : Value} {od an : Option Addr} {osl : Array (Option Value)} {kV doc pm cdv ct : Value} (l : K.lookup f = some ⟨oc, od, .func (PySem.W.fnOf x qual (defArgs st) (defBody st) (defScope st) .none kV doc pm an cdv ct), osl⟩)
    (c : PySem.W.codeIn K cdv qual = true) (k : PySem.W.keepIn K (.ref f) = true) : Fun K x qual st f (PySem.W.fnOf x qual (defArgs st) (defBody st) (defScope st) .none kV doc pm an cdv ct) := ⟨⟨oc, od, kV, doc, pm, an, cdv, ct, osl, rfl, l, c⟩, k⟩
end
theorem hu_of {A : Around} {k : Nat} (hr : Room k A) : A.units + 1 < cLine := Nat.lt_of_le_of_lt (Nat.add_le_add_left (by decide : 1 ≤ 64) _) hr.units
theorem small1000 {n : Nat} (h : n ≤ 1000) : n < sizeLine := Nat.lt_of_le_of_lt h (by decide)
section
variable {X : Cx}
theorem pv (i : Nat) {x : Str} {pos : Pos} (hN : X.N[i]? = some x := by rfl) (hv : Vis X.env.scope x := by first | exact Or.inl rfl | exact Or.inr (Or.inl rfl) | exact Or.inr (Or.inr rfl)) (hd : (x == ("__debug__" : Str)) = false := by decide)
    (hcd : (x == ("__classdict__" : Str)) = false := by decide) : PE X (.Name x pos) (tVar i) := pe_var hN hv hd hcd
end
theorem iteF {A B : Prop} (h : B) : if false = true then A else B := by
  rw [if_neg Bool.false_ne_true]
  exact h
theorem iteT {A B : Prop} (h : A) : if true = true then A else B := by
  rw [if_pos rfl]
  exact h
theorem ite2 {c A B : Prop} [Decidable c] (h1 : c → A) (h2 : ¬ c → B) : if c then A else B := by
  by_cases h : c
  · rw [if_pos h]
    exact h1 h
  · rw [if_neg h]
    exact h2 h
theorem iteNS {c A B : Prop} [Decidable c] (hc : c) (h : B) : if (!decide c) = true then A else B := by
  rw [decide_eq_true hc]
  exact iteF h
def Same (H H' : Hp) : Prop := ∀ b o, H b = some o → H' b = some o
theorem Same.refl (H : Hp) : Same H H := fun _ _ h => h
theorem Same.trans {H H1 H2 : Hp} (a : Same H H1) (b : Same H1 H2) : Same H H2 := fun c o h => b c o (a c o h)
theorem Same.free {H H' : Hp} (e : Same H H') {l : Addr} (h : H' l = Option.none) : H l = Option.none := by
  cases q : H l with
  | none => rfl
  | some o =>
    rw [e l o q] at h
    cases h
theorem Same.seq {K : PySem.W.Frag} {H H' : Hp} {a : Addr} {xs : List V} (e : Same H H') (h : SqL K H a xs) : SqL K H' a xs := by
  rcases h with (h | ⟨o, h⟩) | h
  · exact .inl (.inl (e _ _ h))
  · exact .inl (.inr ⟨o, e _ _ h⟩)
  · exact .inr h
section
variable {X : Cx}
end
section
variable {κ : Type} [DecidableEq κ]
theorem nd_snoc : ∀ {l : List κ} {k : κ}, l.Nodup → ¬ k ∈ l → (l ++ [k]).Nodup
  | [], k, _, _ => by simp
  | a :: r, k, h, hk => by
    obtain ⟨h1, h2⟩ := List.nodup_cons.mp h
    show (a :: (r ++ [k])).Nodup
    refine List.nodup_cons.mpr ⟨fun m => ?_, nd_snoc h2 fun m => hk (List.mem_cons.mpr (Or.inr m))⟩
    rcases List.mem_append.mp m with q | q
    · exact h1 q
    · exact hk (List.mem_cons.mpr (Or.inl (List.mem_singleton.mp q).symm))
end
end L2
set_option maxHeartbeats 8000000
namespace L2
open PySem PySem.Spec PyProof.Rows
def compCx (X : Cx) (N : List Str) (scope : Scope) (cl : List (Str × Addr)) (C : Addr) (s0 : Shared) (H0 : Hp) (ex : List Addr) : Cx :=
  { X with N := N, s₀ := s0, H₀ := H0, env := compEnvC scope cl C X.env, outer := X.stack, stack := X.stack, ex := ex, fn := fun _ => false, pn := [], xe := fun _ _ => False }
def compSt (nl : Nat) (fr : List Nat) (σ : St) : St := List.replicate nl none ++ fr.map fun j => (σ[j]?).join
def closOf (env : Env) : List (Str × NameKind) → List (Str × Addr) → List (Str × Addr)
  | [], cs => cs
  | (n, k) :: r, cs => closOf env r (if (k == NameKind.free) = true then (n, (env.cells.lookup n).getD 0) :: cs else cs)
theorem closOf_sub (env : Env) : ∀ (ns : List (Str × NameKind)) (cs : List (Str × Addr)), (∀ p ∈ ns, p.2 = .free → ∃ c, env.cells.lookup p.1 = some c) → (∀ y c, cs.lookup y = some c → env.cells.lookup y = some c) →
    ∀ y c, (closOf env ns cs).lookup y = some c → env.cells.lookup y = some c
  | [], cs, _, h, y, c, e => h y c e
  | (n, k) :: r, cs, hn, h, y, c, e => by
    unfold closOf at e
    refine closOf_sub env r _ (fun p hp => hn p (List.mem_cons_of_mem _ hp)) ?_ y c e
    intro z d ez
    split at ez
    · rename_i hk
      rw [List.lookup_cons] at ez
      cases hz : z == n with
      | true =>
        rw [hz] at ez
        have hzn : z = n := eq_of_beq hz
        subst hzn
        have hkf : k = .free := by simpa using hk
        obtain ⟨c', hc'⟩ := hn (z, k) List.mem_cons_self hkf
        have hc' : env.cells.lookup z = some c' := hc'
        rw [hc'] at ez
        rw [hc']
        simpa using ez
      | false =>
        rw [hz] at ez
        exact h z d ez
    · exact h z d ez
theorem closOf_keep (env : Env) : ∀ (ns : List (Str × NameKind)) (cs : List (Str × Addr)) (y : Str), (∃ c, cs.lookup y = some c) → ∃ c, (closOf env ns cs).lookup y = some c
  | [], cs, y, h => h
  | (n, k) :: r, cs, y, ⟨c, h⟩ => by
    unfold closOf
    refine closOf_keep env r _ y ?_
    split
    · rw [List.lookup_cons]
      cases hz : y == n with
      | true => exact ⟨_, rfl⟩
      | false => exact ⟨c, h⟩
    · exact ⟨c, h⟩
theorem closOf_has (env : Env) : ∀ (ns : List (Str × NameKind)) (cs : List (Str × Addr)) (p : Str × NameKind), p ∈ ns → p.2 = .free → ∃ c, (closOf env ns cs).lookup p.1 = some c
  | [], cs, p, hp, _ => by simp at hp
  | (n, k) :: r, cs, p, hp, hk => by
    unfold closOf
    rcases List.mem_cons.mp hp with e | hp
    · subst e
      have hk : k = .free := hk
      subst hk
      refine closOf_keep env r _ n ?_
      rw [if_pos (by rfl), List.lookup_cons]
      exact ⟨(List.lookup n env.cells).getD 0, by simp⟩
    · exact closOf_has env r _ p hp hk
theorem closure_loop (env : Env) : ∀ (ns : List (Str × NameKind)) (cs : List (Str × Addr)), (∀ p ∈ ns, p.2 = .free → ∃ c, env.cells.lookup p.1 = some c) →
    (forIn ns cs (fun (x : Str × NameKind) (r : List (Str × Addr)) => if (x.2 == NameKind.free) = true then (do let a ← cellOf env x.1; pure (ForInStep.yield ((x.1, a) :: r))) else pure (ForInStep.yield r)) : Sem (List (Str × Addr))) = pure (closOf env ns cs)
  | [], cs, _ => rfl
  | (n, k) :: r, cs, hn => by
    have ih := fun cs' => closure_loop env r cs' fun p hp => hn p (List.mem_cons_of_mem _ hp)
    rw [List.forIn_cons]
    unfold closOf
    by_cases hk : (k == NameKind.free) = true
    · obtain ⟨c, hc⟩ := hn (n, k) List.mem_cons_self (by simpa using hk)
      have hc : env.cells.lookup n = some c := hc
      rw [if_pos hk, if_pos hk]
      have e1 : cellOf env n = pure c := by unfold cellOf; rw [hc]
      rw [e1, hc]
      exact ih _
    · rw [if_neg hk, if_neg hk]
      exact ih _
theorem closureFor_eq {scope : Scope} {env : Env} (h : ∀ p ∈ scope.names, p.2 = .free → ∃ c, env.cells.lookup p.1 = some c) : closureFor scope env = pure (closOf env scope.names []) := by
  have e := closure_loop env scope.names [] h
  unfold closureFor
  show (forIn scope.names [] _ >>= _) = _
  have e2 : (forIn scope.names ([] : List (Str × Addr)) (fun (x : Str × NameKind) (r : List (Str × Addr)) => match x with | (name, kind) => (if (kind == NameKind.free) = true then (do let a ← cellOf env name; pure PUnit.unit; pure (ForInStep.yield ((name, a) :: r))) else (do pure PUnit.unit; pure (ForInStep.yield r)))) : Sem (List (Str × Addr))) = pure (closOf env scope.names []) := e
  first
    | exact (congrArg (fun z => z >>= fun cs => pure cs) e2)
    | (rw [show (forIn scope.names ([] : List (Str × Addr)) _ : Sem (List (Str × Addr))) = pure (closOf env scope.names []) from e]; rfl)
section
variable {X : Cx}
def PIfs (X : Cx) (ifs : List Expr) (t : TT) : Prop :=
  ∀ (pins : List (Addr × Obj)) (s : Shared) (σ : St) (H : Hp) (Q : Bool → Hp → Prop), Inv X pins σ H s → t σ H Q →
    wpAny (model X.prog X.w) X.A (forIn ifs true fun c r => if r = true then do let ok ← isTrue c X.env (eval c X.env); pure (ForInStep.yield ok) else pure (ForInStep.yield r)) (TP X pins σ Q) X.xe s
def tYes : TT := fun _ H Q => Q true H
theorem pifs_nil : PIfs X [] tYes := fun pins s σ H Q I h => by
  rw [List.forIn_nil]
  exact wpAny_pure ⟨H, I, h⟩
theorem compLoop_any {prog : Program} {w : World} {A : Around} {R : Result → Shared → Prop} {s : Shared} {elt target iter : Expr} {ifs : List Expr} {scope : Scope} {pos : Pos} {it acc : Value} {env : Env} (I : Nat → Shared → Prop)
    (turn : ∀ n s, I n s → wpAny (model prog w) A (pyNext it) (fun r s1 => match r with
      | none => R (.ok .next) s1
      | some v => wpAny (model prog w) A (letOwnedTupleGo target it v) (fun _ s2 => wpAny (model prog w) A (assign target env v) (fun _ s3 =>
          wpAny (model prog w) A (forIn ifs true fun c r => if r = true then do let ok ← isTrue c env (eval c env); pure (ForInStep.yield ok) else pure (ForInStep.yield r)) (fun ok s4 =>
            if ok = true then wpAny (model prog w) A (eval elt env) (fun x s5 =>
              wpAny (model prog w) A (call (.builtin "list.append") [acc, x]) (fun _ s6 => ∃ m, m < n ∧ I m s6) (fun _ _ => False) s5) (fun _ _ => False) s4
            else ∃ m, m < n ∧ I m s4) (fun _ _ => False) s3) (fun _ _ => False) s2) (fun _ _ => False) s1) (fun _ _ => False) s)
    (n : Nat) (h : I n s) :
    codeAny (model prog w) A (.compLoop (.ListComp elt [⟨target, iter, ifs, 0⟩] scope pos) 0 it acc env) R s := by
  refine codeAny_loop rfl I (fun n s hI => ?_) n h
  show wpAny _ A ((compTurn (.ListComp elt [⟨target, iter, ifs, 0⟩] scope pos) 0 it acc env).onRaise (fun x => do noteFrame x env; theTreesLotGoes x)) _ _ s
  refine wpAny_noted ?_
  rw [compTurn_list]
  refine wpAny_bind (wpAny_standAt (wpAny_bind (wpAny_mono (turn n s hI) (fun r s1 h1 => ?_) fun _ _ f => f.elim)))
  cases r with
  | none => exact wpAny_pure h1
  | some v =>
    refine wpAny_bind (wpAny_mono h1 (fun _ s2 h2 => ?_) fun _ _ f => f.elim)
    refine wpAny_bind (wpAny_mono h2 (fun _ s3 h3 => wpAny_bind (wpAny_mono h3 (fun ok s4 h4 => ?_) fun _ _ f => f.elim)) fun _ _ f => f.elim)
    cases ok with
    | false => exact wpAny_pure ⟨rfl, h4⟩
    | true =>
      exact wpAny_bind (wpAny_bind (wpAny_mono h4 (fun x s5 h5 => wpAny_bind (wpAny_mono h5 (fun _ s6 h6 => wpAny_pure (wpAny_pure ⟨rfl, h6⟩)) fun _ _ f => f.elim)) fun _ _ f => f.elim))
def CompW (J : It) (g : TG) (tc : TT) (te : TE) (Q : VK) (σ0 : St) (H0 : Hp) : Prop := ∃ W : Nat → Nat → List V → St → Hp → Prop, (∃ m, W 0 m [] σ0 H0) ∧ ∀ i m ys σ' H', W i m ys σ' H' →
   (J.stop i H' ∧ ∀ D, H' D = none → Q (.ref D) (upd H' D (.lst ys))) ∨
   (J.go i H' ∧ ∃ N : List V → St → Hp → Prop, (∀ ys' σ2 H2, N ys' σ2 H2 → ∃ m', m' < m ∧ W (i + 1) m' ys' σ2 H2) ∧ ∀ x H2, J.yld i H' x H2 → g x σ' H2 fun σ2 H3 => tc σ2 H3 fun b H4 =>
     if b = true then te σ2 H4 fun y H5 => ys.length < sizeLine ∧ N (ys ++ [y]) σ2 H5 else N ys σ2 H4)
def tComp (nl : Nat) (fr : List Nat) (wi : TI) (g : TG) (tc : TT) (te : TE) : TE := fun σ H Q => wi σ H fun J H1 => CompW J g tc te Q (compSt nl fr σ) H1
structure CompOk (X : Cx) (N : List Str) (nl : Nat) (fr : List Nat) (scope : Scope) : Prop where
  cell : ∀ y ∈ scope.names, y.2 ≠ .cell
  kind : scope.kind = .function
  names : ∀ y ∈ scope.names, y.2 = .local → scope.names.lookup y.1 = some .local
  free : ∀ p ∈ scope.names, p.2 = .free → X.env.kindOf p.1 = some .cell ∨ X.env.kindOf p.1 = some .free
  len : N.length = nl + fr.length
  fr : ∀ (k j : Nat), fr[k]? = some j → ∃ y, N[nl + k]? = some y ∧ X.N[j]? = some y ∧ Vis X.env.scope y ∧ scope.names.lookup y = some .free
theorem lookup_relabel {env : Env} : ∀ {names : List (Str × NameKind)} {x : Str} {k : NameKind}, (names.map fun (n, k) => if (k == NameKind.free && env.scope.kind == .function && env.kindOf n == some .cell) then (n, NameKind.cell) else (n, k)).lookup x = some k →
    k = .cell ∨ k = .free → (∀ y ∈ names, y.2 ≠ .cell) → ∃ p ∈ names, p.1 = x ∧ p.2 = .free
  | [], _, _, h, _, _ => by simp at h
  | (n, kn) :: r, x, k, h, hk, hc => by
    have ih := @lookup_relabel env r x k
    rw [List.map_cons] at h
    have hcn : kn ≠ .cell := hc (n, kn) List.mem_cons_self
    have hr : ∀ y ∈ r, y.2 ≠ .cell := fun y hy => hc y (List.mem_cons_of_mem _ hy)
    cases hx : x == n with
    | true =>
      have hxn : x = n := eq_of_beq hx
      by_cases hcc : (kn == NameKind.free && env.scope.kind == .function && env.kindOf n == some .cell) = true
      · refine ⟨(n, kn), List.mem_cons_self, hxn.symm, ?_⟩
        simp only [Bool.and_eq_true] at hcc
        simpa using hcc.1.1
      · dsimp only at h
        rw [if_neg hcc, List.lookup_cons, hx] at h
        have hkk : kn = k := Option.some.inj h
        subst hkk
        rcases hk with z | z
        · exact absurd z hcn
        · exact ⟨(n, kn), List.mem_cons_self, hxn.symm, z⟩
    | false =>
      by_cases hcc : (kn == NameKind.free && env.scope.kind == .function && env.kindOf n == some .cell) = true
      · dsimp only at h
        rw [if_pos hcc, List.lookup_cons, hx] at h
        obtain ⟨p, hp, q⟩ := ih h hk hr
        exact ⟨p, List.mem_cons_of_mem _ hp, q⟩
      · dsimp only at h
        rw [if_neg hcc, List.lookup_cons, hx] at h
        obtain ⟨p, hp, q⟩ := ih h hk hr
        exact ⟨p, List.mem_cons_of_mem _ hp, q⟩
theorem lookup_relabel_free {env : Env} : ∀ {names : List (Str × NameKind)} {x : Str}, names.lookup x = some .free →
    (names.map fun (n, k) => if (k == NameKind.free && env.scope.kind == .function && env.kindOf n == some .cell) then (n, NameKind.cell) else (n, k)).lookup x = some .cell ∨
    (names.map fun (n, k) => if (k == NameKind.free && env.scope.kind == .function && env.kindOf n == some .cell) then (n, NameKind.cell) else (n, k)).lookup x = some .free
  | [], _, h => by simp at h
  | (n, kn) :: r, x, h => by
    have ih := @lookup_relabel_free env r x
    rw [List.map_cons]
    dsimp only
    cases hx : x == n with
    | true =>
      rw [List.lookup_cons, hx] at h
      have hkn : kn = .free := Option.some.inj h
      by_cases hcc : (kn == NameKind.free && env.scope.kind == .function && env.kindOf n == some .cell) = true
      · rw [if_pos hcc, List.lookup_cons, hx]; exact .inl rfl
      · rw [if_neg hcc, List.lookup_cons, hx]; exact .inr (congrArg some hkn)
    | false =>
      rw [List.lookup_cons, hx] at h
      by_cases hcc : (kn == NameKind.free && env.scope.kind == .function && env.kindOf n == some .cell) = true
      · rw [if_pos hcc, List.lookup_cons, hx]; exact ih h
      · rw [if_neg hcc, List.lookup_cons, hx]; exact ih h
theorem HOk.track {P : Program} {w : World} {H : Hp} {h : Heap} {a : Addr} {o : HO} (x : HOk P w H h) (hn : H a = none) (new : ObjOk P w (upd H a o) h a o) : HOk P w (upd H a o) h := fun b u e => by
  by_cases hb : b = a
  · subst hb; rw [upd_same] at e; cases e; exact new
  · rw [upd_ne hb] at e
    exact (x b u e).stay (fun c v _ q => q) (fun c q => by rw [upd_ne (ne_of_none q hn)]; exact q) fun c xs q => by rw [upd_ne (ne_of_none q hn)]; exact q
theorem comp_core {elt tg iter : Expr} {ifs : List Expr} {scope : Scope} {pos : Pos} {wi : TI} {g : TG} {tc : TT} {te : TE} {N : List Str} {nl : Nat} {fr : List Nat}
    (hc : X.calm = true) (hi : PI X tg iter wi) (hg : ∀ cl C s0 H0 ex, PG (compCx X N scope cl C s0 H0 ex) tg g) (ht : ∀ cl C s0 H0 ex, PIfs (compCx X N scope cl C s0 H0 ex) ifs tc)
    (he : ∀ cl C s0 H0 ex, PE (compCx X N scope cl C s0 H0 ex) elt te) (ok : CompOk X N nl fr scope)
    {RR : Value → Addr → Result → Shared → Prop} {pins : List (Addr × Obj)} {s : Shared} {σ : St} {H : Hp} {Q : VK} (I : Inv X pins σ H s) (h : tComp nl fr wi g tc te σ H Q)
    (hRR : ∀ D C s' H', Inv X pins σ H' s' → Q (.ref D) H' → FpOk X pins H' C → (∃ m, s'.heap.Ns C m) → RR (.ref D) C (.ok .next) s') :
    wpAny (model X.prog X.w) X.A (eval iter X.env) (fun x s1 => wpAny (model X.prog X.w) X.A (pyIter x) (fun it s2 => wpAny (model X.prog X.w) X.A (newList []) (fun acc s3 =>
      wpAny (model X.prog X.w) X.A (newFunctionEnv scope X.env.globals (closOf X.env scope.names []) [] X.env.qual none .none (some X.env)) (fun cenv s4 =>
        codeAny (model X.prog X.w) X.A (.compStart (.ListComp elt [⟨tg, iter, ifs, 0⟩] scope pos) 0 it acc { cenv with scope := relabel scope X.env }) (RR acc cenv.locals) s4) X.xe s3) X.xe s2) X.xe s1) X.xe s := by
  refine thn (hi pins s σ H _ I h) fun v s1 h1 => thn h1 fun itv s2 h2 => ?_
  obtain ⟨it, fp, tn, J, H2, rfl, I2, T, st2, f2, W, ⟨m0, w0⟩, turn⟩ := h2
  refine wpAny_newObj_type (wpAny_newFunctionEnv ok.cell (by intro y hy; simp at hy) (fun h1 hns1 hsb1 => ?_) ok.kind)
  dsimp only at hns1 hsb1 ⊢
  generalize hHH : s2.heap.push { cls := .type "list", dict := none, data := .seq ([] : List Value).toArray } = HH at hns1 hsb1 ⊢
  have hC : HH.objs.size = s2.heap.objs.size + 1 := by rw [← hHH, Heap.size_push]
  have hDC : s2.heap.objs.size ≠ HH.objs.size := by rw [hC]; exact Nat.ne_of_lt (Nat.lt_succ_self _)
  have hCle : s2.heap.objs.size ≤ HH.objs.size := by rw [hC]; exact Nat.le_succ _
  have below : ∀ b, b < s2.heap.objs.size → b ≠ HH.objs.size ∧ b ≠ s2.heap.objs.size := fun b hb => ⟨by rw [hC]; exact Nat.ne_of_lt (Nat.lt_succ_of_lt hb), Nat.ne_of_lt hb⟩
  have old : ∀ b o, s2.heap.get? b = some o → h1.get? b = some o := fun b o e => hsb1.extBut b o (below b (Heap.lt_size e)).1 (Heap.get?_push_of_some _ (hHH ▸ Heap.get?_push_of_some _ e))
  have hacc : h1.get? s2.heap.objs.size = some { cls := .type "list", data := .seq ([] : List Value).toArray } := hsb1.extBut _ _ hDC (Heap.get?_push_of_some _ (hHH ▸ Heap.get?_push_size _ rfl))
  have fplt : ∀ b ∈ fp, b < s2.heap.objs.size := fun b hb => by obtain ⟨o, e, _⟩ := T.obj 0 _ st2 b hb; exact Heap.lt_size e
  generalize hXd : compCx X N scope (closOf X.env scope.names []) HH.objs.size s2 H2 fp = X'
  have hfreeC : ∀ p ∈ scope.names, p.2 = .free → ∃ c, X.env.cells.lookup p.1 = some c := fun p hp hf => I.ok.has p.1 (ok.free p hp hf)
  have cellsSub : ∀ y c, (closOf X.env scope.names []).lookup y = some c → X.env.cells.lookup y = some c := closOf_sub X.env scope.names [] hfreeC (fun y c e => by simp at e)
  have cellLt : ∀ y c, X.env.cells.lookup y = some c → c < s2.heap.objs.size := fun y c e => by obtain ⟨v, z⟩ := I2.cell y c e; exact z.lt
  have ok' : X'.Ok := by
    rw [← hXd]
    refine ⟨I.ok.mod, ?_, I.ok.glob, I.ok.blt, hCle, fun x y c e1 e2 => I.ok.inj x y c (cellsSub x c e1) (cellsSub y c e2), fun x hx => ?_, fun x c hf => (by cases hf), I.ok.hd, I.ok.frames, .inl rfl,
      fun b hb => ⟨(below b (fplt b hb)).1, fun x c e => (f2 b hb).2.2.2.2.1 x c (cellsSub x c e)⟩, I2.bs, Nat.le_trans I.ok.bsz I2.sz, fun b o e hb => ?_, fun b hb hfs => ?_, I2.stack, I2.stkFree⟩
    · show (relabel scope X.env).kind = .function
      exact ok.kind
    · have hx' : ∃ p ∈ scope.names, p.1 = x ∧ p.2 = .free := by
        rcases hx with z | z
        · exact lookup_relabel z (.inl rfl) ok.cell
        · exact lookup_relabel z (.inr rfl) ok.cell
      obtain ⟨p, hp, rfl, hpf⟩ := hx'
      exact closOf_has X.env scope.names [] p hp hpf
    · rcases (f2 b hb).2.2.2.1 with z | z
      · exact I.ok.noex b o e z
      · exact absurd (Nat.lt_of_lt_of_le (Heap.lt_size e) (Nat.le_trans I.ok.bsz z)) (Nat.lt_irrefl _)
    · rcases List.mem_cons.mp (I2.stkSub b hfs) with z | z
      · exact (f2 b hb).2.1 z
      · exact (f2 b hb).2.2.1 z
  have hX'd : X'.env.locals = HH.objs.size := by rw [← hXd]; rfl
  have hX'c : X'.env.cells = closOf X.env scope.names [] := by rw [← hXd]; rfl
  have hX'pn : X'.pn = [] := by rw [← hXd]; rfl
  have hX'ex : X'.ex = fp := by rw [← hXd]; rfl
  have hX's0 : X'.s₀ = s2 := by rw [← hXd]; rfl
  have hX'H0 : X'.H₀ = H2 := by rw [← hXd]; rfl
  have hX'fs : X'.fs = frs X.stack := by rw [← hXd]; rfl
  have hX'xe : X'.xe = fun _ _ => False := by rw [← hXd]; rfl
  have hX'A : X'.A = X.A := by rw [← hXd]; rfl
  have hX'P : X'.prog = X.prog := by rw [← hXd]; rfl
  have hX'w : X'.w = X.w := by rw [← hXd]; rfl
  have hX'K : X'.K = X.K := by rw [← hXd]; rfl
  have hX'calm : X'.calm = true := by rw [← hXd]; exact hc
  have hX'env : X'.env = compEnvC scope (closOf X.env scope.names []) HH.objs.size X.env := by rw [← hXd]; rfl
  have I' : Inv X' [] (compSt nl fr σ) H2 { s2 with heap := h1, toks := s2.toks + ([] : List (Str × Value)).length } := by
    refine ⟨ok', by rw [hX's0], I2.bare, ?_, ?_, fun x c e => ?_, ?_, fun x c e => ?_, fun p hp => ?_, ?_, ?_⟩
    · rw [hX'fs, hX'ex, hX'H0, hX's0]; exact Un.kept old
    · obtain ⟨m, hn, hl⟩ := I2.loc
      rw [hX'd]
      refine ⟨_, hns1, fun i x v e1 e2 e3 => ?_⟩
      have hN' : N[i]? = some x := by rw [← hXd] at e1; exact e1
      unfold compSt at e2
      have hi : ¬ i < nl := fun hlt => by
        rw [List.getElem?_append_left (by simpa using hlt), List.getElem?_replicate, if_pos hlt] at e2
        cases e2
      rw [List.getElem?_append_right (by simpa using hi), List.length_replicate, List.getElem?_map] at e2
      cases ej : fr[i - nl]? with
      | none => rw [ej] at e2; cases e2
      | some j =>
        rw [ej] at e2
        obtain ⟨y, y1, y2, y3, y4⟩ := ok.fr (i - nl) j ej
        have hii : nl + (i - nl) = i := by omega
        rw [hii, hN'] at y1
        have hxy : x = y := Option.some.inj y1
        subst hxy
        have e2' : (σ[j]?).join = some v := Option.some.inj e2
        have e2'' : σ[j]? = some (some v) := by
          cases hσ : σ[j]? with
          | none => rw [hσ] at e2'; cases e2'
          | some z => rw [hσ] at e2'; exact congrArg some e2'
        obtain ⟨u, r, l⟩ := hl j x v y2 e2'' y3
        have hkX := ok.free (x, .free) (PySem.mem_of_lookup y4) rfl
        refine ⟨u, r, .inr ⟨?_, ?_⟩⟩
        · rw [hX'env]
          rcases lookup_relabel_free (env := X.env) y4 with z | z
          · exact .inl z
          · exact .inr z
        · rcases l with ⟨k1, _⟩ | ⟨_, c, ec, hcell⟩
          · rcases hkX with z | z
            · rw [z] at k1; cases k1
            · rw [z] at k1; cases k1
          · obtain ⟨c', ec'⟩ := closOf_has X.env scope.names [] (x, .free) (PySem.mem_of_lookup y4) rfl
            have : c' = c := by
              have q := cellsSub x c' ec'
              rw [ec] at q
              exact (Option.some.inj q).symm
            subst this
            refine ⟨c', by rw [hX'c]; exact ec', ?_⟩
            obtain ⟨oc, ho, hd⟩ := hcell
            exact ⟨oc, old _ _ ho, hd⟩
    · rw [hX'c] at e
      obtain ⟨v, oc, ho, hd⟩ := I2.cell x c (cellsSub x c e)
      exact ⟨v, oc, old _ _ ho, hd⟩
    · rw [hX'd]; exact I2.hok.fresh hCle
    · rw [hX'c] at e
      exact I2.freeC x c (cellsSub x c e)
    · rw [hX'pn] at hp; simp at hp
    · rw [hX'P, hX'w]; exact I2.hok.kept old
    · unfold compSt
      have : X'.N = N := by rw [← hXd]; rfl
      rw [this, ok.len, List.length_append, List.length_replicate, List.length_map]
  have Dn : ∀ {H' : Hp} {pins'} {s' : Shared} {σ'}, Inv X' pins' σ' H' s' → H' s2.heap.objs.size = none → ∀ o, s'.heap.get? s2.heap.objs.size = some o → (∀ v, o.data ≠ .cell v) → Inv X' [(s2.heap.objs.size, o)] σ' H' s' := fun {H' pins' s' σ'} I3 hD o ho hnc =>
    I3.pins_of fun p hp => by
      have e : p = (s2.heap.objs.size, o) := by simpa using hp
      subst e
      refine ⟨ho, hD, by rw [hX'd]; exact hDC, ?_, hnc⟩
      rw [hX'fs]
      intro hb
      rcases List.mem_cons.mp (I2.stkSub _ hb) with z | z
      · exact absurd (z ▸ I2.lt) (Nat.lt_irrefl _)
      · exact I2.nofs (Nat.le_refl _) z
  have loop : ∀ s₃ : Shared, s₃ = { s2 with heap := h1, toks := s2.toks + ([] : List (Str × Value)).length } →
      codeAny (model X.prog X.w) X.A (.compLoop (.ListComp elt [⟨tg, iter, ifs, 0⟩] scope pos) 0 (.ref it) (.ref s2.heap.objs.size) (compEnvC scope (closOf X.env scope.names []) HH.objs.size X.env)) (RR (.ref s2.heap.objs.size) HH.objs.size) s₃ := by
    rintro s₃ rfl
    refine compLoop_any (fun n s' => ∃ (i : Nat) (σ' : St) (H' : Hp) (ys : List V) (its : List Value) (k : Nat), Inv X' [(s2.heap.objs.size, { cls := .type "list", data := .seq its.toArray k })] σ' H' s' ∧ Vals ys its ∧ ys.length ≤ sizeLine ∧ tn i s'.heap ∧ (∀ b ∈ fp, H' b = none) ∧ W i n ys σ' H')
      ?_ m0 ⟨0, _, H2, [], [], 0, Dn I' (I2.hok.fresh (Nat.le_refl _)) _ hacc (fun v z => by cases z), .nil, Nat.zero_le _, T.keep 0 _ _ st2 fun b hb o e => old b o e, fun b hb => (f2 b hb).1, w0⟩
    rintro n s3 ⟨i, σ3, H3, ys, its, k, I3, rv, hyl, st3, fr3, w3⟩
    have pinD := I3.pin (s2.heap.objs.size, { cls := .type "list", data := .seq its.toArray k }) (by rw [hX'pn]; exact List.mem_append_right _ List.mem_cons_self)
    have stat : ∀ {o : Obj} {H' : Hp}, (∀ b ∈ fp, H' b = none) → ∀ b ∈ fp, FpOk X' [(s2.heap.objs.size, o)] H' b := fun {o H'} hn b hb => by
      refine ⟨hn b hb, by rw [hX'd]; exact (below b (fplt b hb)).1, fun z => ok'.exfs b (by rw [hX'ex]; exact hb) z, .inl (by rw [hX'ex]; exact hb), fun x c e => by rw [hX'c] at e; exact (f2 b hb).2.2.2.2.1 x c (cellsSub x c e), fun p hp => ?_⟩
      rw [hX'pn] at hp
      have e : p = (s2.heap.objs.size, o) := by simpa using hp
      subst e
      exact fun z => (below b (fplt b hb)).2 z.symm
    rcases turn i n ys σ3 H3 w3 with ⟨stop, qn⟩ | ⟨go, Nx, hNx, step⟩
    · have dn := T.done X' hX'P hX'w hX'K hX'calm i _ s3 σ3 H3 (fun _ _ => False) I3 (stat fr3) st3 stop
      rw [hX'A] at dn
      refine thn dn fun r s4 ⟨hr, I4⟩ => ?_
      subst hr
      have pinE := I4.pin (s2.heap.objs.size, { cls := .type "list", data := .seq its.toArray k }) (by rw [hX'pn]; exact List.mem_append_right _ List.mem_cons_self)
      have ub : Un (frs X.stack) fp H2 H3 s2.heap s4.heap := by
        have := I4.base
        rw [hX'fs, hX'ex, hX'H0, hX's0] at this
        exact this
      have hok4 : HOk X.prog X.w H3 s4.heap := by have := I4.hok; rw [hX'P, hX'w] at this; exact this
      have nD : ∀ b u, H3 b = some u → b ≠ s2.heap.objs.size := fun b u e z => by rw [z, pinE.2.1] at e; cases e
      have u2 : Un (frs X.stack) fp H2 (upd H3 s2.heap.objs.size (.lst ys)) s2.heap s4.heap :=
        ⟨ub.keep, ub.slot, fun b o e n' hx => by rw [upd_ne (Nat.ne_of_lt (Heap.lt_size e))]; exact ub.free b o e n' hx, ub.there,
          fun b xs e => by have := ub.tups b xs e; rw [upd_ne (nD b _ this)]; exact this, fun b o u e => by have := ub.frzs b o u e; rw [upd_ne (nD b _ this)]; exact this,
          fun b ps e => by obtain ⟨more, z⟩ := ub.tbls b ps e; exact ⟨more, by rw [upd_ne (nD b _ z)]; exact z⟩⟩
      have I5 : Inv X pins σ (upd H3 s2.heap.objs.size (.lst ys)) s4 := by
        refine I2.call' (by rw [I4.os, hX's0]) u2 ?_ I4.bare fun b hb => ⟨(f2 b hb).2.2.2.1, (f2 b hb).2.1, (f2 b hb).2.2.2.2.1, (f2 b hb).2.2.2.2.2⟩
        exact HOk.track hok4 pinE.2.1 ⟨hyl, its, k, rv, pinE.1⟩
      refine hRR _ _ s4 _ I5 (qn _ pinE.2.1) (I2.fpOk hCle ?_) ?_
      · rw [upd_ne (Ne.symm hDC)]
        have := I4.free
        rw [hX'd] at this
        exact this
      · obtain ⟨m, hn, _⟩ := I4.loc
        rw [hX'd] at hn
        exact ⟨m, hn⟩
    · have im := T.item X' hX'P hX'w hX'K hX'calm i _ s3 σ3 H3 (fun _ _ => False) I3 (stat fr3) st3 go
      rw [hX'A] at im
      refine thn im fun r s4 ⟨u, hr, h4⟩ => ?_
      subst hr
      refine thn h4 fun _ s5 ⟨x, H5, I5, r5, y5, st5, fr5⟩ => ?_
      have I5' := I5.pinned (stat fr5) (T.obj _ _ st5)
      have gg := hg (closOf X.env scope.names []) HH.objs.size s2 H2 fp
      rw [hXd] at gg
      have gg := gg _ s5 σ3 H5 x u _ I5' r5 (step x H5 y5)
      rw [hX'A, hX'P, hX'w, hX'xe, hX'env] at gg
      refine thn gg fun _ s6 ⟨σ6, H6, I6, q6⟩ => ?_
      have tt := ht (closOf X.env scope.names []) HH.objs.size s2 H2 fp
      rw [hXd] at tt
      have tt := tt _ s6 σ6 H6 _ I6 q6
      rw [hX'A, hX'P, hX'w, hX'xe, hX'env] at tt
      refine thn tt fun ok7 s7 ⟨H7, I7, q7⟩ => ?_
      have again : ∀ {s8 : Shared} {σ8 : St} {H8 : Hp} {ys8 : List V} {its8 : List Value} {k8 : Nat}, Inv X' ([(s2.heap.objs.size, { cls := .type "list", data := .seq its8.toArray k8 })] ++ pinsAt fp s5.heap) σ8 H8 s8 → Vals ys8 its8 → ys8.length ≤ sizeLine → Nx ys8 σ8 H8 →
          ∃ m, m < n ∧ ∃ (i : Nat) (σ' : St) (H' : Hp) (ys : List V) (its : List Value) (k : Nat), Inv X' [(s2.heap.objs.size, { cls := .type "list", data := .seq its.toArray k })] σ' H' s8 ∧ Vals ys its ∧ ys.length ≤ sizeLine ∧ tn i s8.heap ∧ (∀ b ∈ fp, H' b = none) ∧ W i m ys σ' H' :=
        fun {s8 σ8 H8 ys8 its8 k8} I8 rv8 hl8 n8 => by
          obtain ⟨m', hm, w8⟩ := hNx ys8 σ8 H8 n8
          refine ⟨m', hm, i + 1, σ8, H8, ys8, its8, k8, I8.unpinned, rv8, hl8, T.keep _ _ _ st5 fun b hb o e => (I8.pin (b, o) (List.mem_append_right _ (List.mem_append_right _ (mem_pinsAt hb e)))).1, fun b hb => ?_, w8⟩
          obtain ⟨o, e, d⟩ := T.obj _ _ st5 b hb
          exact (I8.pin (b, o) (List.mem_append_right _ (List.mem_append_right _ (mem_pinsAt hb e)))).2.1
      cases ok7 with
      | false =>
        rw [if_neg Bool.false_ne_true] at q7 ⊢
        exact again I7 rv hyl q7
      | true =>
        rw [if_pos rfl] at q7 ⊢
        have ee := he (closOf X.env scope.names []) HH.objs.size s2 H2 fp
        rw [hXd] at ee
        have ee := ee _ s7 σ6 H7 _ I7 q7
        rw [hX'A, hX'P, hX'w, hX'xe, hX'env] at ee
        refine thn ee fun yv s8 ⟨y, H8, I8, r8, hyl8, q8⟩ => ?_
        have pin8 := I8.pin (s2.heap.objs.size, { cls := .type "list", data := .seq its.toArray k }) (List.mem_append_right _ (List.mem_append_left _ List.mem_cons_self))
        refine wpAny_list_append_plain (items := its.toArray) ⟨k, pin8.1⟩ (fun h9 hp9 hs9 => ?_) (by rw [List.size_toArray, ← rv.length]; exact hyl)
        obtain ⟨k9, e9⟩ := hp9
        have I9 : Inv X' (pinsAt fp s5.heap) σ6 H8 s8 := I8.pins_of fun p hp => I8.pin p (List.mem_append_right _ (List.mem_append_right _ hp))
        have I9' : Inv X' (pinsAt fp s5.heap) σ6 H8 { s8 with heap := h9, toks := s8.toks } := by
          refine I9.turned (t' := s8.toks) (it := s2.heap.objs.size) (fun b o hb e => hs9.extBut b o hb e) pin8.2.1 (by rw [hX'd]; exact hDC) (.inr (by rw [hX's0]; exact Nat.le_refl _)) (fun x c e z => ?_) fun p hp z => ?_
          · rw [hX'c] at e
            exact absurd (z ▸ cellLt x c (cellsSub x c e)) (Nat.lt_irrefl _)
          · rw [hX'pn] at hp
            obtain ⟨hb, _⟩ := of_pinsAt (by simpa using hp)
            exact absurd (z ▸ fplt _ hb) (Nat.lt_irrefl _)
        have e9' : h9.get? s2.heap.objs.size = some { cls := .type "list", data := .seq (its ++ [yv]).toArray k9 } := by rw [e9]; simp
        refine again (ys8 := ys ++ [y]) (its8 := its ++ [yv]) (k8 := k9) ?_ (Vals.append rv (.cons r8 .nil)) (by rw [List.length_append]; exact hyl8) q8
        refine I9'.pins_of fun p hp => ?_
        rcases List.mem_append.mp hp with z | z
        · have e : p = (s2.heap.objs.size, { cls := .type "list", data := .seq (its ++ [yv]).toArray k9 }) := by simpa using z
          subst e
          exact ⟨e9', pin8.2.1, pin8.2.2.1, pin8.2.2.2.1, fun v z => by cases z⟩
        · exact I9'.pin p (List.mem_append_right _ z)
  exact codeAny_compStart_list (loop _ rfl) (T.self X.A 0 _ _ _ (T.keep 0 _ _ st2 fun b hb o e => old b o e) (loop _ rfl))
end
end L2
namespace L2
open PySem PySem.Spec PyProof.Rows
section
variable {X : Cx}
theorem pe_comp {elt tg iter : Expr} {ifs : List Expr} {scope : Scope} {pos : Pos} {wi : TI} {g : TG} {tc : TT} {te : TE} {N : List Str} {nl : Nat} {fr : List Nat}
    (hc : X.calm = true) (ok : CompOk X N nl fr scope) (hi : PI X tg iter wi) (hg : ∀ cl C s0 H0 ex, PG (compCx X N scope cl C s0 H0 ex) tg g) (ht : ∀ cl C s0 H0 ex, PIfs (compCx X N scope cl C s0 H0 ex) ifs tc)
    (he : ∀ cl C s0 H0 ex, PE (compCx X N scope cl C s0 H0 ex) elt te) (hs : ∀ x, foldedSetIterable iter X.env x = pure x := by intro _; rfl) :
    PE X (.ListComp elt [⟨tg, iter, ifs, 0⟩] scope pos) (tComp nl fr wi g tc te) := by
  intro pins s σ H Q I h
  have hclos : closureFor scope X.env = pure (closOf X.env scope.names []) := closureFor_eq fun p hp hf => I.ok.has p.1 (ok.free p hp hf)
  rw [eval_ListComp]
  refine wpAny_comprehension_free (use := none) rfl hs hclos ok.kind ok.names (comp_core (RR := fun acc C => compPost (model X.prog X.w) X.A X.xe none (EP X pins σ Q) acc C) hc hi hg ht he ok I h ?_)
  intro D C s' H' I' q f ⟨m, hn⟩
  exact ⟨m, hn, fun h' hs' => ⟨.ref D, H', I'.turned (t' := s'.toks) (fun b o hb e => hs'.extBut b o hb e) f.1 f.2.1 f.2.2.2.1 f.2.2.2.2.1 f.2.2.2.2.2, rfl, q⟩⟩
theorem comp_list {K : PySem.W.Frag} {a : Addr} {xs : List V} {g : TG} {tc : TT} {te : TE} {σ0 : St} {H : Hp} {Q : VK} (Pv : Nat → List V → St → Hp → Prop) (h0 : Pv 0 [] σ0 H) (hl : ∀ i ys σ H, i ≤ xs.length → Pv i ys σ H → SqL K H a xs)
    (hs : ∀ i x ys σ H, xs[i]? = some x → Pv i ys σ H → g x σ H fun σ2 H2 => tc σ2 H2 fun b H4 => if b = true then te σ2 H4 fun y H5 => ys.length < sizeLine ∧ Pv (i + 1) (ys ++ [y]) σ2 H5 else Pv (i + 1) ys σ2 H4)
    (hd : ∀ ys σ H, Pv xs.length ys σ H → ∀ D, H D = none → Q (.ref D) (upd H D (.lst ys))) :
    CompW (Itl K a) g tc te Q σ0 H := by
  refine ⟨fun i m ys σ H => m = xs.length - i ∧ i ≤ xs.length ∧ Pv i ys σ H, ⟨xs.length, by simp, Nat.zero_le _, h0⟩, ?_⟩
  rintro i m ys σ H ⟨rfl, hi, p⟩
  have q := hl i ys σ H hi p
  by_cases hlt : i < xs.length
  · refine .inr ⟨⟨xs, xs[i], q, by simp [hlt]⟩, Pv (i + 1), fun ys' σ' H' p' => ⟨xs.length - (i + 1), by omega, rfl, hlt, p'⟩, fun x H' y => ?_⟩
    obtain ⟨e, y⟩ := y
    subst e
    exact hs i x ys σ _ (y xs q) p
  · have e : i = xs.length := by omega
    subst e
    exact .inl ⟨⟨xs, q, Nat.le_refl _⟩, hd ys σ H p⟩
inductive EqD (K : PySem.W.Frag) (H : Hp) : Nat → V → V → Bool → Prop where
  | flat {n : Nat} {x y : V} : flatV x = true → flatV y = true → EqD K H n x y (eqV x y)
  | same {n : Nat} (a : Addr) : EqD K H n (.ref a) (.ref a) true
  | lists {n : Nat} {a b : Addr} {xs ys : List V} (e : Nat → Bool) : a ≠ b → SqL K H a xs → SqL K H b ys → xs.length = ys.length → (∀ (j : Nat) x y, xs[j]? = some x → ys[j]? = some y → EqD K H n x y (e j)) → EqD K H (n + 1) (.ref a) (.ref b) ((List.range xs.length).all e)
  | lens {n : Nat} {a b : Addr} {xs ys : List V} : a ≠ b → SqL K H a xs → SqL K H b ys → xs.length ≠ ys.length → EqD K H (n + 1) (.ref a) (.ref b) false
theorem eqAt_D {pins : List (Addr × Obj)} {σ : St} {H : Hp} {s : Shared} (I : Inv X pins σ H s) {n : Nat} {x y : V} {b : Bool} (d : EqD X.K H n x y b) :
    ∀ {A : Around} {u v : Value}, A.units + n < cLine → RelV x u → RelV y v → SeqAt.EqAt A s u v b := by
  induction d with
  | flat fx fy => intro A u v _ rx ry; exact eqAt_V rx ry fx fy
  | same a => intro A u v _ rx ry; cases rx; cases ry; exact SeqAt.EqAt.same _
  | @lists n a c xs ys e ne ha hb hl _ ih =>
    intro A u v hu rx ry
    cases rx; cases ry
    obtain ⟨its, r1, p1, _⟩ := I.list ha
    obtain ⟨its2, r2, p2, _⟩ := I.list hb
    have l1 := r1.length
    have l2 := r2.length
    refine SeqAt.EqAt.of_refs ne ?_
    have q := SeqAt.RcAt.lists (A := A) (e := e) p1.isList p2.isList (by rw [List.size_toArray, List.size_toArray]; omega) (by omega) (fun j h1 h2 => by
      have h1' : j < its.length := by simpa using h1
      have h2' : j < its2.length := by simpa using h2
      have e1 : xs[j]? = some (xs[j]'(by omega)) := List.getElem?_eq_getElem _
      have e2 : ys[j]? = some (ys[j]'(by omega)) := List.getElem?_eq_getElem _
      obtain ⟨u1, z1, q1⟩ := r1.get e1
      obtain ⟨u2, z2, q2⟩ := r2.get e2
      have w1 : its.toArray[j] = u1 := by
        rw [List.getElem?_eq_getElem h1'] at z1
        simpa using z1
      have w2 : its2.toArray[j] = u2 := by
        rw [List.getElem?_eq_getElem h2'] at z2
        simpa using z2
      rw [w1, w2]
      exact ih j _ _ e1 e2 (by show A.in1.units + n < cLine; have : A.in1.units = A.units + 1 := by first | rfl | simp [Around.in1]
                               omega) q1 q2)
    rw [List.size_toArray, ← l1] at q
    exact q
  | lens ne ha hb hl =>
    intro A u v hu rx ry
    cases rx; cases ry
    obtain ⟨its, r1, p1, _⟩ := I.list ha
    obtain ⟨its2, r2, p2, _⟩ := I.list hb
    have l1 := r1.length
    have l2 := r2.length
    exact SeqAt.EqAt.of_refs ne (SeqAt.RcAt.lists_lengths p1.isList p2.isList (by rw [List.size_toArray, List.size_toArray]; simp; omega) (by omega))
def LEq (K : PySem.W.Frag) (H : Hp) (n : Nat) (xs ys : List V) (r : Bool) : Prop :=
  (xs.length ≠ ys.length ∧ r = false) ∨ (∃ e : Nat → Bool, xs.length = ys.length ∧ (∀ (j : Nat) x y, xs[j]? = some x → ys[j]? = some y → EqD K H n x y (e j)) ∧ r = (List.range xs.length).all e)
theorem leq_rc {pins : List (Addr × Obj)} {σ : St} {H : Hp} {s : Shared} (I : Inv X pins σ H s) {A : Around} {n : Nat} {a b : Addr} {xs ys : List V} {r : Bool} (hu : A.units + n + 1 < cLine) (ha : SqL X.K H a xs) (hb : SqL X.K H b ys) (d : LEq X.K H n xs ys r) :
    SeqAt.RcAt A s (.ref a) (.ref b) r := by
  obtain ⟨its, r1, p1, _⟩ := I.list ha
  obtain ⟨its2, r2, p2, _⟩ := I.list hb
  have l1 := r1.length
  have l2 := r2.length
  rcases d with ⟨hl, rfl⟩ | ⟨e, hl, he, rfl⟩
  · exact SeqAt.RcAt.lists_lengths p1.isList p2.isList (by rw [List.size_toArray, List.size_toArray]; simp; omega) (by omega)
  · have q := SeqAt.RcAt.lists (A := A) (e := e) p1.isList p2.isList (by rw [List.size_toArray, List.size_toArray]; omega) (by omega) (fun j h1 h2 => by
      have h1' : j < its.length := by simpa using h1
      have h2' : j < its2.length := by simpa using h2
      have e1 : xs[j]? = some (xs[j]'(by omega)) := List.getElem?_eq_getElem _
      have e2 : ys[j]? = some (ys[j]'(by omega)) := List.getElem?_eq_getElem _
      obtain ⟨u1, z1, q1⟩ := r1.get e1
      obtain ⟨u2, z2, q2⟩ := r2.get e2
      have w1 : its.toArray[j] = u1 := by
        rw [List.getElem?_eq_getElem h1'] at z1
        simpa using z1
      have w2 : its2.toArray[j] = u2 := by
        rw [List.getElem?_eq_getElem h2'] at z2
        simpa using z2
      rw [w1, w2]
      exact eqAt_D I (he j _ _ e1 e2) (by show A.in1.units + n < cLine; have : A.in1.units = A.units + 1 := by first | rfl | simp [Around.in1]
                                          omega) q1 q2)
    rw [List.size_toArray, ← l1] at q
    exact q
end
end L2
namespace L2
open PySem PySem.Spec PyProof.Rows
section
variable {X : Cx}
theorem leq_rcNe {pins : List (Addr × Obj)} {σ : St} {H : Hp} {s : Shared} (I : Inv X pins σ H s) {A : Around} {n : Nat} {a b : Addr} {xs ys : List V} {r : Bool} (hu : A.units + n + 1 < cLine) (ha : SqL X.K H a xs) (hb : SqL X.K H b ys) (d : LEq X.K H n xs ys r) :
    SeqAt.RcNeAt A s (.ref a) (.ref b) (!r) := by
  obtain ⟨its, r1, p1, _⟩ := I.list ha
  obtain ⟨its2, r2, p2, _⟩ := I.list hb
  have l1 := r1.length
  have l2 := r2.length
  rcases d with ⟨hl, rfl⟩ | ⟨e, hl, he, rfl⟩
  · exact SeqAt.RcNeAt.lists_lengths p1.isList p2.isList (by rw [List.size_toArray, List.size_toArray]; simp; omega) (by omega)
  · have q := SeqAt.RcNeAt.lists (A := A) (e := e) p1.isList p2.isList (by rw [List.size_toArray, List.size_toArray]; omega) (by omega) (fun j h1 h2 => by
      have h1' : j < its.length := by simpa using h1
      have h2' : j < its2.length := by simpa using h2
      have e1 : xs[j]? = some (xs[j]'(by omega)) := List.getElem?_eq_getElem _
      have e2 : ys[j]? = some (ys[j]'(by omega)) := List.getElem?_eq_getElem _
      obtain ⟨u1, z1, q1⟩ := r1.get e1
      obtain ⟨u2, z2, q2⟩ := r2.get e2
      have w1 : its.toArray[j] = u1 := by
        rw [List.getElem?_eq_getElem h1'] at z1
        simpa using z1
      have w2 : its2.toArray[j] = u2 := by
        rw [List.getElem?_eq_getElem h2'] at z2
        simpa using z2
      rw [w1, w2]
      exact eqAt_D I (he j _ _ e1 e2) (by show A.in1.units + n < cLine; have : A.in1.units = A.units + 1 := by first | rfl | simp [Around.in1]
                                          omega) q1 q2)
    rw [List.size_toArray, ← l1] at q
    exact q
def rEqL (K : PySem.W.Frag) (n : Nat) (neg : Bool) : R2 := fun x y H Q => ∃ a b xs ys r, x = .ref a ∧ y = .ref b ∧ SqL K H a xs ∧ SqL K H b ys ∧ LEq K H n xs ys r ∧ Q (.bl (if neg then !r else r)) H
theorem op_neL (n : Nat) (hu : X.A.units + n + 1 < cLine) : OpR X (compareOp .NotEq) (rEqL X.K n true) := by
  intro pins s σ H x y v u Q I rx ry h
  obtain ⟨a, b, xs, ys, r, rfl, rfl, ha, hb, d, q⟩ := h
  cases rx; cases ry
  exact leq_rcNe I hu ha hb d _ _ _ _ ⟨.bl (!r), H, I, rfl, q⟩
theorem all_range_iff {n : Nat} {e : Nat → Bool} : (List.range n).all e = true ↔ ∀ j, j < n → e j = true := by
  rw [List.all_eq_true]
  exact ⟨fun h j hj => h j (List.mem_range.mpr hj), fun h j hj => h j (List.mem_range.mp hj)⟩
theorem leq_ints (K : PySem.W.Frag) (H : Hp) (n : Nat) (ns ms : List Int) : LEq K H n (ns.map V.int) (ms.map V.int) (decide (ns = ms)) := by
  by_cases hl : ns.length = ms.length
  · refine .inr ⟨fun j => decide (ns[j]? = ms[j]?), by simpa using hl, fun j x y e1 e2 => ?_, ?_⟩
    · rw [List.getElem?_map] at e1 e2
      cases h1 : ns[j]? with
      | none => rw [h1] at e1; cases e1
      | some a =>
        cases h2 : ms[j]? with
        | none => rw [h2] at e2; cases e2
        | some b =>
          rw [h1] at e1; rw [h2] at e2
          cases e1; cases e2
          have q : EqD K H n (V.int a) (V.int b) (eqV (V.int a) (V.int b)) := .flat rfl rfl
          have e : eqV (V.int a) (V.int b) = decide (some a = some b) := by
            show (a == b) = _
            by_cases z : a = b
            · subst z; simp
            · rw [decide_eq_false (fun w => z (Option.some.inj w))]; simpa using z
          rw [e] at q
          show EqD K H n _ _ (decide (ns[j]? = ms[j]?))
          rw [h1, h2]
          exact q
    · rw [Bool.eq_iff_iff, decide_eq_true_iff, all_range_iff]
      constructor
      · intro h j _; subst h; simp
      · intro h
        refine List.ext_getElem? fun j => ?_
        by_cases hj : j < ns.length
        · exact of_decide_eq_true (h j (by simpa using hj))
        · rw [List.getElem?_eq_none (by omega), List.getElem?_eq_none (by omega)]
  · refine .inl ⟨by simpa using hl, ?_⟩
    exact decide_eq_false fun h => hl (by rw [h])
def Rows (K : PySem.W.Frag) (H : Hp) (as : List Addr) (rs : List (List Int)) : Prop := as.length = rs.length ∧ ∀ (j : Nat) a r, as[j]? = some a → rs[j]? = some r → SqL K H a (r.map V.int)
theorem leq_rows {K : PySem.W.Frag} {H : Hp} {as bs : List Addr} {rs qs : List (List Int)} (ha : Rows K H as rs) (hb : Rows K H bs qs) (inj : ∀ p xs ys, SqL K H p xs → SqL K H p ys → xs = ys) : LEq K H 1 (as.map V.ref) (bs.map V.ref) (decide (rs = qs)) := by
  by_cases hl : as.length = bs.length
  · refine .inr ⟨fun j => decide (rs[j]? = qs[j]?), by simpa using hl, fun j x y e1 e2 => ?_, ?_⟩
    · rw [List.getElem?_map] at e1 e2
      cases h1 : as[j]? with
      | none => rw [h1] at e1; cases e1
      | some a =>
        cases h2 : bs[j]? with
        | none => rw [h2] at e2; cases e2
        | some b =>
          rw [h1] at e1; rw [h2] at e2
          cases e1; cases e2
          have j1 : j < as.length := (List.getElem?_eq_some_iff.mp h1).1
          have k1 : rs[j]? = some (rs[j]'(by rw [← ha.1]; exact j1)) := List.getElem?_eq_getElem _
          have k2 : qs[j]? = some (qs[j]'(by rw [← hb.1, ← hl]; exact j1)) := List.getElem?_eq_getElem _
          have q1 := ha.2 j a _ h1 k1
          have q2 := hb.2 j b _ h2 k2
          show EqD K H 1 _ _ (decide (rs[j]? = qs[j]?))
          rw [k1, k2]
          by_cases hab : a = b
          · subst hab
            have e : (rs[j]'(by rw [← ha.1]; exact j1)).map V.int = (qs[j]'(by rw [← hb.1, ← hl]; exact j1)).map V.int := inj a _ _ q1 q2
            have e' := List.map_inj_right (fun x y (h : V.int x = V.int y) => V.int.inj h) |>.mp e
            rw [e', decide_eq_true rfl]
            exact .same a
          · generalize (rs[j]'(by rw [← ha.1]; exact j1)) = r at q1 ⊢
            generalize (qs[j]'(by rw [← hb.1, ← hl]; exact j1)) = q at q2 ⊢
            rcases leq_ints K H 0 r q with ⟨h3, h4⟩ | ⟨e, h3, h4, h5⟩
            · have := EqD.lens (n := 0) hab q1 q2 h3
              rw [decide_eq_false (fun z => by
                have z' : r = q := Option.some.inj z
                exact h3 (by rw [z']))]
              exact this
            · have := EqD.lists (n := 0) e hab q1 q2 h3 h4
              rw [← h5] at this
              have e6 : decide (r = q) = decide (some r = some q) := by
                by_cases z : r = q
                · subst z; simp
                · rw [decide_eq_false z, decide_eq_false fun w => z (Option.some.inj w)]
              rw [← e6]
              exact this
    · rw [Bool.eq_iff_iff, decide_eq_true_iff, all_range_iff]
      constructor
      · intro h j _; subst h; simp
      · intro h
        refine List.ext_getElem? fun j => ?_
        by_cases hj : j < rs.length
        · exact of_decide_eq_true (h j (by rw [List.length_map, ha.1]; exact hj))
        · rw [List.getElem?_eq_none (by omega), List.getElem?_eq_none (by rw [← hb.1, ← hl, ha.1]; omega)]
  · refine .inl ⟨by simpa using hl, ?_⟩
    exact decide_eq_false fun h => hl (by rw [ha.1, hb.1, h])
theorem call_range1 : CallR X (.type "range") (fun xs H Q => ∃ j, xs = [.int j] ∧ ∀ p, H p = none → Q (.ref p) (upd H p (.rng 0 j))) := by
  intro pins s σ H xs us Q I r h
  obtain ⟨j, rfl, q⟩ := h
  obtain ⟨u, rfl, ⟨t, rfl⟩⟩ := vals1 r
  refine call_range_1 ⟨.ref s.heap.objs.size, _, I.laid (fun b o e => Heap.get?_push_of_some _ e) (Nat.le_refl _) ?_, rfl, q _ (I.hok.fresh (Nat.le_refl _))⟩
  exact ⟨_, _, _, Heap.get?_push_size _ rfl⟩
def upTo (lo : Int) (n : Nat) : List Int := (List.range n).map fun (i : Nat) => lo + (i : Int)
theorem vals_items {lo : Int} {n : Nat} {acc : Array Value} (h : ItemsOf (fun i v => ∃ t, v = Value.int (lo + (i : Int) * 1) t) acc n) : Vals ((upTo lo n).map V.int) acc.toList := by
  obtain ⟨hs, hv⟩ := h
  have key : ∀ (l : List Value) (k : Nat), (∀ (j : Nat) v, l[j]? = some v → ∃ t, v = Value.int (lo + ((k + j : Nat) : Int)) t) → Vals (((List.range l.length).map fun (i : Nat) => lo + ((k + i : Nat) : Int)).map V.int) l := by
    intro l
    induction l with
    | nil => intro k _; exact .nil
    | cons v r ih =>
      intro k hk
      have e : (((List.range r.length).map Nat.succ).map fun (i : Nat) => lo + ((k + i : Nat) : Int)) = (List.range r.length).map fun (i : Nat) => lo + ((k + 1 + i : Nat) : Int) := by
        rw [List.map_map]
        refine List.map_congr_left fun i _ => ?_
        show lo + ((k + (i + 1) : Nat) : Int) = _
        congr 2; omega
      rw [List.length_cons, List.range_succ_eq_map, List.map_cons, List.map_cons, e]
      refine .cons ?_ ?_
      · obtain ⟨t, e⟩ := hk 0 v rfl
        exact ⟨t, e⟩
      · have := ih (k + 1) fun j w e => by
          obtain ⟨t, z⟩ := hk (j + 1) w (by simpa using e)
          exact ⟨t, by rw [z]; congr 2; omega⟩
        exact this
  have := key acc.toList 0 fun j v e => by
    obtain ⟨t, z⟩ := hv j v (by simpa using e)
    exact ⟨t, by rw [z, Int.mul_one]; simp⟩
  have hl : acc.toList.length = n := by simpa using hs
  rw [hl] at this
  have e : ((List.range n).map fun (i : Nat) => lo + ((0 + i : Nat) : Int)) = upTo lo n := by
    unfold upTo
    refine List.map_congr_left fun i _ => ?_
    simp
  rw [e] at this
  exact this
theorem call_list_rng (hc : X.calm = true) : CallR X (.type "list") (fun xs H Q => ∃ p lo hi, xs = [.ref p] ∧ H p = some (.rng lo hi) ∧ (-(2 ^ 62) ≤ lo ∧ lo < 2 ^ 62 ∧ -(2 ^ 62) ≤ hi ∧ hi < 2 ^ 62) ∧ (hi - lo).toNat ≤ 2 ^ 20 ∧
    ∀ l, H l = none → Q (.ref l) (upd H l (.lst ((upTo lo (hi - lo).toNat).map V.int)))) := by
  intro pins s σ H xs us Q I r h
  obtain ⟨p, lo, hi, rfl, hp, ⟨b1, b2, b3, b4⟩, hz, q⟩ := h
  obtain ⟨u, rfl, rx⟩ := vals1 r
  cases rx
  obtain ⟨t, u, v, ho⟩ := I.hok p _ hp
  refine call_list_range (n := (hi - lo).toNat) (I.ok.hd hc) (r := p) ho (small_one b1 b2 b3 b4) (by rw [rangeSize_one]; split <;> omega) (Nat.le_trans hz (by decide)) fun h' tk acc' c' hk e it => ?_
  have rv := vals_items it
  refine ⟨.ref s.heap.objs.size, _, I.laid hk (Nat.le_refl _) (show ObjOk X.prog X.w _ h' _ (.lst ((upTo lo (hi - lo).toNat).map V.int)) from ⟨?_, acc'.toList, c', rv, by rw [e]⟩), rfl, q _ (I.hok.fresh (Nat.le_refl _))⟩
  unfold upTo
  rw [List.length_map, List.length_map, List.length_range]
  exact Nat.le_trans hz (by rw [sizeLine_eq]; decide)
theorem call_sumI (hc : X.calm = true) : CallR X (.builtin "sum") (fun xs H Q => ∃ (p : Addr) (ns : List Int), xs = [.ref p] ∧ SqL X.K H p (ns.map V.int) ∧ Q (.int ns.sum) H) := by
  intro pins s σ H xs us Q I r h
  obtain ⟨p, ns, rfl, hp, q⟩ := h
  obtain ⟨u, rfl, rx⟩ := vals1 r
  cases rx
  obtain ⟨its, rv, pl, _⟩ := I.list hp
  have ia := intsAre_of rv
  obtain ⟨xs, hxs⟩ := ia.allInts.items
  have hn := ia.numsOf
  have hxl : its = (intItems xs).toList := by rw [← hxs]
  rw [hxl, nums_intItems] at hn
  have hl := pl.isList
  rw [hxs] at hl
  refine sum_intListG (I.ok.hd hc) hl fun h' tk t' hk => ⟨.int ns.sum, H, I.kept hk, ?_, q⟩
  rw [preSum_eq, List.take_of_length_le (by simp), hn]
  exact ⟨_, rfl⟩
end
end L2
namespace L2
open PySem PySem.Spec PyProof.Rows
section
variable {X : Cx}
theorem call_minL (hc : X.calm = true) : CallR X (.builtin "min") (fun xs H Q => ∃ (p : Addr) (ns : List Int), xs = [.ref p] ∧ SqL X.K H p (ns.map V.int) ∧ ns ≠ [] ∧ ∀ m, m ∈ ns → (∀ x ∈ ns, m ≤ x) → Q (.int m) H) := by
  intro pins s σ H xs us Q I r h
  obtain ⟨p, ns, rfl, hp, hne, q⟩ := h
  obtain ⟨u, rfl, rx⟩ := vals1 r
  cases rx
  obtain ⟨its, rv, pl, _⟩ := I.list hp
  have ia := intsAre_of rv
  obtain ⟨xs, hxs⟩ := ia.allInts.items
  have hn := ia.numsOf
  have hxl : its = (intItems xs).toList := by rw [← hxs]
  rw [hxl, nums_intItems] at hn
  have hl := pl.isList
  rw [hxs] at hl
  have hnx : ∀ j : Nat, ns[j]? = (xs[j]?).map (·.1) := fun j => by rw [← hn]; simp
  have hlen : ns.length = xs.size := by rw [← hn]; simp
  have h0 : 0 < xs.size := by
    rw [← hlen]
    exact List.length_pos_iff.mpr hne
  refine min_intList (I.ok.hd hc) hl h0 fun v h' tk hv hk => ?_
  obtain ⟨b1, b2⟩ := argBest_lt (numAt xs) (xs.size - 1)
  generalize hab : argBest (fun i j => decide (numAt xs i < numAt xs j)) (xs.size - 1) = k at hv b1 b2
  have hk1 : k < xs.size := by omega
  have hv' : v = Value.int (xs[k]).1 (xs[k]).2 := by
    unfold intItems at hv
    rw [Array.getElem?_map, Array.getElem?_eq_getElem hk1] at hv
    exact (Option.some.inj hv).symm
  have hnum : ∀ j (hj : j < xs.size), numAt xs j = (xs[j]).1 := fun j hj => by unfold numAt; rw [Array.getElem?_eq_getElem hj]; rfl
  have hm : (xs[k]).1 ∈ ns := by
    refine List.mem_of_getElem? (i := k) ?_
    rw [hnx, Array.getElem?_eq_getElem hk1]
    rfl
  refine ⟨.int (xs[k]).1, H, I.kept hk, ⟨_, hv'⟩, q _ hm fun x hx => ?_⟩
  obtain ⟨j, hj⟩ := List.mem_iff_getElem?.mp hx
  have hj1 : j < xs.size := by rw [← hlen]; exact (List.getElem?_eq_some_iff.mp hj).1
  have := b2 j (by omega)
  rw [hnum k hk1, hnum j hj1] at this
  rw [hnx, Array.getElem?_eq_getElem hj1] at hj
  have hj : (xs[j]).1 = x := Option.some.inj hj
  rw [← hj]
  exact this
theorem call_isi : CallR X (.builtin "isinstance") (fun xs H Q => ∃ x n t b, xs = [x, .ty n] ∧ TyOf X.K H x t ∧ PySem.W.kitOne X.K t (.type n) = some b ∧ Q (.bl b) H) := by
  intro pins s σ H xs us Q I r h
  obtain ⟨x, n, t, b, rfl, ty, e, q⟩ := h
  obtain ⟨u, w', rfl, rx, ry⟩ := vals2 r
  cases (show w' = Value.type n from ry)
  exact isinst_ok I rx ty e fun tk => ⟨.bl b, H, I.tok tk, rfl, q⟩
theorem kit_same (K : PySem.W.Frag) (n : String) : PySem.W.kitOne K (.type n) (.type n) = some true := by
  unfold PySem.W.kitOne
  rw [if_pos (beq_self_eq_true _)]
theorem kit_int_bool (K : PySem.W.Frag) : PySem.W.kitOne K (.type "int") (.type "bool") = some false := by
  unfold PySem.W.kitOne PySem.W.kitCls
  rw [if_neg (by decide +kernel)]
  show (if PySem.W.kitMeta "bool" = true then (fastBuiltinMro "int").map (·.contains (Value.type "bool")) else none) = some false
  rw [if_pos (by decide +kernel)]
  decide +kernel
theorem boot_int : bootBuiltins "int" = some (.type "int") := by decide +kernel
theorem boot_bool : bootBuiltins "bool" = some (.type "bool") := by decide +kernel
theorem boot_listT : bootBuiltins "list" = some (.type "list") := by decide +kernel
theorem boot_rangeT : bootBuiltins "range" = some (.type "range") := by decide +kernel
theorem boot_isi : bootBuiltins "isinstance" = some (.builtin "isinstance") := by decide +kernel
theorem boot_sumB : bootBuiltins "sum" = some (.builtin "sum") := by decide +kernel
theorem boot_minB : bootBuiltins "min" = some (.builtin "min") := by decide +kernel
theorem boot_maxB : bootBuiltins "max" = some (.builtin "max") := by decide +kernel
end
def KeepBut (a : Addr) (H H' : Hp) : Prop := ∀ b o, H b = some o → b ≠ a → H' b = some o
theorem KeepBut.refl (a : Addr) (H : Hp) : KeepBut a H H := fun _ _ h _ => h
theorem KeepBut.trans {a : Addr} {H H1 H2 : Hp} (x : KeepBut a H H1) (y : KeepBut a H1 H2) : KeepBut a H H2 := fun b o h n => y b o (x b o h n) n
theorem Same.upd_new {H : Hp} {p : Addr} {o : HO} (h : H p = none) : Same H (upd H p o) := fun b u e => by rw [upd_ne (ne_of_none e h)]; exact e
theorem KeepBut.upd {H : Hp} {a : Addr} {o : HO} : KeepBut a H (upd H a o) := fun b u e n => by rw [upd_ne n]; exact e
theorem Same.upd_r {H H' : Hp} {p : Addr} {o : HO} (s : Same H H') (h : H p = none) : Same H (L2.upd H' p o) := fun b u e => by rw [upd_ne (ne_of_none e h)]; exact s b u e
theorem KeepBut.upd_r {a : Addr} {H H' : Hp} {p : Addr} {o : HO} (k : KeepBut a H H') (h : H p = none) : KeepBut a H (L2.upd H' p o) := fun b u e n => by rw [upd_ne (ne_of_none e h)]; exact k b u e n
theorem KeepBut.upd_a {a : Addr} {H H' : Hp} {o : HO} (k : KeepBut a H H') : KeepBut a H (L2.upd H' a o) := fun b u e n => by rw [upd_ne n]; exact k b u e n
def PoolAt (H : Hp) (a : Addr) (c : Nat) : Prop := ∃ x y z : Int, H a = some (.lst [.int x, .int y, .int z]) ∧ 0 ≤ z ∧ z ≤ c
theorem PoolAt.mono {H : Hp} {a : Addr} {c d : Nat} (h : PoolAt H a c) (e : c ≤ d) : PoolAt H a d := by
  obtain ⟨x, y, z, h1, h2, h3⟩ := h
  exact ⟨x, y, z, h1, h2, by omega⟩
end L2
namespace L2
open PySem PySem.Spec PyProof.Rows
def Cal (P : Program) (w : World) (K : PySem.W.Frag) (mg : Str → Option Value) (base : Heap) (x : Str) (k : Nat) (ps : List Str) (sp : Sp) : Prop :=
  ∃ (f : Addr) (fd : FuncData), mg x = some (.ref f) ∧ PySem.W.keepIn K (.ref f) = true ∧ Binds K fd ps [] ∧ FnOk P w K mg base CX0 k f fd ps sp
section
variable {X : Cx} {x : Str} {p pos : Pos} {e : Expr} {es : List Expr} {t : TA} {k : Nat} {ps : List Str} {sp : Sp}
theorem pe_cal (c : Cal X.prog X.w X.K X.mg X.base x k ps sp) (hr : Room k X.A) (ha : PA X (e :: es) t) (hg : Gl X x := by rfl) (hdb : (x == ("__debug__" : Str)) = false := by decide)
    (he : starEach (e :: es) X.env = (false, eval e X.env) :: starEach es X.env := by rfl) (hpl : (backTo pos (starEach es X.env)).any (·.1) = false := by rfl) :
    PE X (.Call (.Name x p) (e :: es) [] pos) (tCall sp [] E0 t) := by
  obtain ⟨f, fd, h1, h2, h3, h4⟩ := c
  exact pe_call h4 hr hg h1 h2 h3 .nil pass0 ha hdb he hpl
theorem pe_isi {a b : Expr} {ta : TA} (hm : X.mg "isinstance" = none) (ha : PA X [a, b] ta) (hg : Gl X "isinstance" := by rfl)
    (he : starEach [a, b] X.env = (false, eval a X.env) :: starEach [b] X.env := by rfl) (hpl : (backTo pos (starEach [b] X.env)).any (·.1) = false := by rfl) :
    PE X (.Call (.Name "isinstance" p) [a, b] [] pos) (tCB (fun xs H Q => ∃ x n t b, xs = [x, .ty n] ∧ TyOf X.K H x t ∧ PySem.W.kitOne X.K t (.type n) = some b ∧ Q (.bl b) H) ta) :=
  pe_callB call_isi hg hm boot_isi ha (by decide) (by decide) he hpl
theorem pe_tyInt (hm : X.mg "int" = none) (hg : Gl X "int" := by rfl) : PE X (.Name "int" p) (tC (.ty "int")) := pe_bltn hg hm boot_int rfl
theorem pe_tyBool (hm : X.mg "bool" = none) (hg : Gl X "bool" := by rfl) : PE X (.Name "bool" p) (tC (.ty "bool")) := pe_bltn hg hm boot_bool rfl
theorem pe_tyList (hm : X.mg "list" = none) (hg : Gl X "list" := by rfl) : PE X (.Name "list" p) (tC (.ty "list")) := pe_bltn hg hm boot_listT rfl
theorem pe_lenL (hm : X.mg "len" = none) (ha : PA X [e] t) (hg : Gl X "len" := by rfl)
    (he : starEach [e] X.env = (false, eval e X.env) :: starEach [] X.env := by rfl) : PE X (.Call (.Name "len" p) [e] [] pos) (tCB (fun xs H Q => ∃ p ys, xs = [.ref p] ∧ (SqL X.K H p ys ∨ SqT X.K H p ys) ∧ Q (.int ys.length) H) t) :=
  pe_callB call_len_seq hg hm PySem.boot_len ha (by decide) (by decide) he rfl
end
end L2
namespace Mth
structure IsT (p : List Int) : Prop where
  nd : p.Nodup
  lo : ∀ x ∈ p, 0 ≤ x
  hi : ∀ x ∈ p, x < p.length
theorem mem_upTo {n : Nat} {x : Int} : x ∈ L2.upTo 0 n ↔ 0 ≤ x ∧ x < n := by
  unfold L2.upTo
  rw [List.mem_map]
  constructor
  · rintro ⟨i, hi, rfl⟩
    have := List.mem_range.mp hi
    omega
  · rintro ⟨h1, h2⟩
    exact ⟨x.toNat, List.mem_range.mpr (by omega), by omega⟩
theorem length_upTo (lo : Int) (n : Nat) : (L2.upTo lo n).length = n := by
  unfold L2.upTo
  rw [List.length_map, List.length_range]
theorem nodup_upTo (n : Nat) : (L2.upTo 0 n).Nodup := by
  unfold L2.upTo
  rw [List.nodup_iff_pairwise_ne, List.pairwise_map]
  exact List.Pairwise.imp (fun {a b} (h : a < b) => by omega) List.pairwise_lt_range
theorem isT_of_perm {p : List Int} {n : Nat} (h : p.Perm (L2.upTo 0 n)) : IsT p ∧ p.length = n := by
  have hl : p.length = n := by rw [h.length_eq, length_upTo]
  refine ⟨⟨h.nodup_iff.mpr (nodup_upTo n), fun x hx => (mem_upTo.mp (h.mem_iff.mp hx)).1, fun x hx => ?_⟩, hl⟩
  have := (mem_upTo.mp (h.mem_iff.mp hx)).2
  omega
theorem perm_of_nodup : ∀ (n : Nat) (p : List Nat), p.Nodup → (∀ x ∈ p, x < n) → p.length = n → p.Perm (List.range n) := by
  intro n
  induction n with
  | zero => intro p _ _ hl; rw [List.eq_nil_of_length_eq_zero hl]; exact List.Perm.refl _
  | succ n ih =>
    intro p nd hb hl
    by_cases hn : n ∈ p
    · obtain ⟨s, t, rfl⟩ := List.append_of_mem hn
      have pm : (s ++ n :: t).Perm (n :: (s ++ t)) := List.perm_middle
      have nd' := pm.nodup_iff.mp nd
      obtain ⟨h1, h2⟩ := List.nodup_cons.mp nd'
      have := ih (s ++ t) h2 (fun x hx => by
        have hx' : x < n + 1 := hb x (pm.mem_iff.mpr (List.mem_cons_of_mem _ hx))
        have : x ≠ n := fun e => h1 (e ▸ hx)
        omega) (by rw [List.length_append, List.length_cons] at hl; rw [List.length_append]; omega)
      refine pm.trans ?_
      rw [List.range_succ]
      exact (List.Perm.cons n this).trans (List.perm_append_comm (l₁ := [n]))
    · exfalso
      have hlt : ∀ x ∈ p, x < n := fun x hx => by
        have h1 := hb x hx
        have : x ≠ n := fun e => hn (e ▸ hx)
        omega
      match p, nd, hl, hlt with
      | [], _, hl, _ => simp at hl
      | y :: q, nd, hl, hlt =>
        obtain ⟨h1, h2⟩ := List.nodup_cons.mp nd
        have hq := ih q h2 (fun x hx => hlt x (List.mem_cons_of_mem _ hx)) (by simpa using hl)
        have hy := hlt y List.mem_cons_self
        exact h1 (hq.mem_iff.mpr (List.mem_range.mpr hy))
theorem IsT.perm {p : List Int} (h : IsT p) : p.Perm (L2.upTo 0 p.length) := by
  have e : (p.map Int.toNat).map (fun (i : Nat) => (0 : Int) + (i : Int)) = p := by
    rw [List.map_map]
    conv => rhs; rw [← List.map_id p]
    refine List.map_congr_left fun x hx => ?_
    have := h.lo x hx
    show (0 : Int) + ((x.toNat : Nat) : Int) = x
    omega
  have nd : (p.map Int.toNat).Nodup := by
    rw [List.nodup_iff_pairwise_ne, List.pairwise_map]
    have := List.nodup_iff_pairwise_ne.mp h.nd
    refine List.Pairwise.imp_of_mem (fun {a b} ha hb hne z => hne ?_) this
    have h1 := h.lo a ha
    have h2 := h.lo b hb
    omega
  have := perm_of_nodup p.length (p.map Int.toNat) nd (fun x hx => by
    obtain ⟨y, hy, rfl⟩ := List.mem_map.mp hx
    have h1 := h.lo y hy
    have h2 := h.hi y hy
    omega) (by rw [List.length_map])
  have q := this.map (fun (i : Nat) => (0 : Int) + (i : Int))
  rw [e] at q
  exact q
def at0 (fs : List Int) (u : Int) : Option Int := fs[u.toNat]?
theorem map_upTo_at0 (fs : List Int) : (L2.upTo 0 fs.length).map (at0 fs) = fs.map some := by
  unfold L2.upTo
  rw [List.map_map]
  refine List.ext_getElem? fun j => ?_
  rw [List.getElem?_map, List.getElem?_map]
  by_cases hj : j < fs.length
  · rw [List.getElem?_range hj, List.getElem?_eq_getElem hj]
    show some (fs[((0 : Int) + (j : Int)).toNat]?) = _
    have : ((0 : Int) + (j : Int)).toNat = j := by omega
    rw [this, List.getElem?_eq_getElem hj]
    rfl
  · rw [List.getElem?_eq_none (by rw [List.length_range]; omega), List.getElem?_eq_none (by omega)]
    rfl
theorem perm_some {a b : List Int} (h : (a.map some).Perm (b.map some)) : a.Perm b := by
  have := h.map (fun o : Option Int => o.getD 0)
  rw [List.map_map, List.map_map] at this
  have e : ∀ l : List Int, l.map ((fun o : Option Int => o.getD 0) ∘ some) = l := fun l => by
    conv => rhs; rw [← List.map_id l]
    rfl
  rw [e, e] at this
  exact this
theorem perm_along {fs ts qs : List Int} (ht : IsT ts) (hl : fs.length = ts.length) (h : ts.map (at0 fs) = qs.map some) : fs.Perm qs := by
  refine perm_some ?_
  have h1 := ht.perm.map (at0 fs)
  rw [← hl, map_upTo_at0, h] at h1
  exact h1.symm
end Mth
namespace L2
open PySem PySem.Spec PyProof.Rows
theorem CompOk.of {X : Cx} {N : List Str} {nl : Nat} {fr : List Nat} {scope : Scope} (h1 : (scope.names.all fun y => y.2 != .cell) = true := by rfl) (h2 : scope.kind = .function := by rfl)
    (h3 : (scope.names.all fun y => y.2 != .local || scope.names.lookup y.1 == some .local) = true := by rfl)
    (h4 : (scope.names.all fun p => p.2 != .free || (X.env.kindOf p.1 == some .cell || X.env.kindOf p.1 == some .free)) = true := by rfl) (h5 : N.length = nl + fr.length := by rfl)
    (h6 : ((List.range fr.length).all fun k => match fr[k]? with
      | some j => (match N[nl + k]?, X.N[j]? with
        | some y, some z => y == z && (X.env.scope.names.lookup y == some .local || X.env.scope.names.lookup y == some .cell || X.env.scope.names.lookup y == some .free) && scope.names.lookup y == some .free
        | _, _ => false)
      | none => false) = true := by rfl) : CompOk X N nl fr scope where
  cell := fun y hy e => by
    have := List.all_eq_true.mp h1 y hy
    rw [e] at this; exact absurd this (by decide)
  kind := h2
  names := fun y hy e => by
    have := List.all_eq_true.mp h3 y hy
    rw [e] at this
    have q : (scope.names.lookup y.1 == some NameKind.local) = true := by simpa using this
    exact eq_of_beq q
  free := fun p hp e => by
    have := List.all_eq_true.mp h4 p hp
    rw [e] at this
    have q : (X.env.kindOf p.1 == some NameKind.cell || X.env.kindOf p.1 == some NameKind.free) = true := by simpa using this
    rcases Bool.or_eq_true _ _ |>.mp q with z | z
    · exact .inl (eq_of_beq z)
    · exact .inr (eq_of_beq z)
  len := h5
  fr := fun k j e => by
    have hk : k < fr.length := (List.getElem?_eq_some_iff.mp e).1
    have := List.all_eq_true.mp h6 k (List.mem_range.mpr hk)
    rw [e] at this
    dsimp only at this
    cases e1 : N[nl + k]? with
    | none => rw [e1] at this; cases this
    | some y =>
      cases e2 : X.N[j]? with
      | none => rw [e1, e2] at this; cases this
      | some z =>
        rw [e1, e2] at this
        dsimp only at this
        rw [Bool.and_eq_true, Bool.and_eq_true] at this
        obtain ⟨⟨q1, q2⟩, q3⟩ := this
        have hyz : y = z := eq_of_beq q1
        subst hyz
        refine ⟨y, rfl, rfl, ?_, eq_of_beq q3⟩
        rw [Bool.or_eq_true, Bool.or_eq_true] at q2
        rcases q2 with (q | q) | q
        · exact .inl (eq_of_beq q)
        · exact .inr (.inl (eq_of_beq q))
        · exact .inr (.inr (eq_of_beq q))
def seenK (l : List Int) : List (Key × V) := l.map fun n => ((Sum.inl n : Key), V.bl true)
theorem seenK_in {l : List Int} {n : Int} (h : n ∈ l) : valV (seenK l) (Sum.inl n : Key) = some (.bl true) := by
  induction l with
  | nil => simp at h
  | cons a r ih =>
    show valV (((Sum.inl a : Key), V.bl true) :: seenK r) _ = _
    by_cases e : a = n
    · rw [valV_pos (by rw [e])]
    · rw [valV_neg (fun z => e (Sum.inl.inj z))]
      exact ih ((List.mem_cons.mp h).resolve_left fun z => e z.symm)
theorem seenK_no {l : List Int} {n : Int} (h : n ∉ l) : valV (seenK l) (Sum.inl n : Key) = none := by
  induction l with
  | nil => rfl
  | cons a r ih =>
    show valV (((Sum.inl a : Key), V.bl true) :: seenK r) _ = _
    rw [valV_neg (fun z => h (by rw [Sum.inl.inj z]; exact List.mem_cons_self))]
    exact ih fun z => h (List.mem_cons_of_mem _ z)
theorem seenK_put {l : List Int} {n : Int} (h : n ∉ l) : putK (seenK l) (Sum.inl n : Key) (V.bl true) = seenK (l ++ [n]) := by
  rw [putK_new _ (seenK_no h)]
  unfold seenK
  rw [List.map_append]
  rfl
theorem getElem_int {ns : List Int} {i : Nat} {y : V} (h : (ns.map V.int)[i]? = some y) : ∃ z, ns[i]? = some z ∧ y = .int z := by
  rw [List.getElem?_map] at h
  cases e : ns[i]? with
  | none => rw [e] at h; cases h
  | some z => rw [e] at h; exact ⟨z, rfl, (Option.some.inj h).symm⟩
theorem take_succ_of {α : Type} {l : List α} {i : Nat} {x : α} (h : l[i]? = some x) : l.take (i + 1) = l.take i ++ [x] := by
  rw [List.take_add_one, h]
  rfl
end L2
namespace Mth
def comp (p q : List Int) : List Int := q.map fun i => p.getD i.toNat 0
theorem atI_map {p : List Int} {i : Int} (h0 : 0 ≤ i) (h1 : i < p.length) : L2.atI (p.map L2.V.int) i = some (.int (p.getD i.toNat 0)) := by
  obtain ⟨j, rfl⟩ := Int.eq_ofNat_of_zero_le h0
  refine L2.atI_nat ?_
  have hj : j < p.length := by omega
  rw [List.getElem?_map, List.getElem?_eq_getElem hj]
  show some (L2.V.int p[j]) = _
  rw [Int.toNat_natCast]
  rw [List.getD_eq_getElem?_getD, List.getElem?_eq_getElem hj]
  rfl
end Mth
namespace L2
open PySem PySem.Spec PyProof.Rows
theorem leq_nil (K : PySem.W.Frag) (H : Hp) (n : Nat) (xs : List V) : LEq K H n xs [] xs.isEmpty := by
  cases xs with
  | nil => exact .inr ⟨fun _ => true, rfl, fun j x y e => by simp at e, rfl⟩
  | cons x r => exact .inl ⟨by simp, rfl⟩
section
variable {X : Cx} {p pos apos : Pos} {e o : Expr} {es : List Expr} {t : TA} {to : TE}
theorem pe_append (ho : PE X o to) (ha : PA X [e] t)
    (hbase : attributeBase o "append" X.env (eval o X.env) = eval o X.env := by rfl)
    (hfew : ((backTo pos (starEach [e] X.env)).all (fun x => !x.1) && (backToKw pos (keywordEach [] X.env)).all (fun x => x.1.isSome)
      && decide ([e].length + ([] : List Keyword).length + (if ([] : List Keyword).isEmpty then 0 else 1) < 30)) = true := by rfl)
    (hline : (apos.endLine == pos.line) = true := by rfl) (hs : starEach [e] X.env = (false, eval e X.env) :: starEach [] X.env := by rfl) (hplain : (backTo pos (starEach [] X.env)).any (·.1) = false := by rfl) :
    PE X (.Call (.Attribute o "append" apos) [e] [] pos) (tBM X.K "list" rAppend to t) :=
  pe_bm PySem.F.plainAttrs_list PySem.F.slot_list_append PySem.F.type_list_append mt_append ho ha hbase hfew hline hs hplain
theorem pe_popAt (ho : PE X o to) (ha : PA X [e] t)
    (hbase : attributeBase o "pop" X.env (eval o X.env) = eval o X.env := by rfl)
    (hfew : ((backTo pos (starEach [e] X.env)).all (fun x => !x.1) && (backToKw pos (keywordEach [] X.env)).all (fun x => x.1.isSome)
      && decide ([e].length + ([] : List Keyword).length + (if ([] : List Keyword).isEmpty then 0 else 1) < 30)) = true := by rfl)
    (hline : (apos.endLine == pos.line) = true := by rfl) (hs : starEach [e] X.env = (false, eval e X.env) :: starEach [] X.env := by rfl) (hplain : (backTo pos (starEach [] X.env)).any (·.1) = false := by rfl) :
    PE X (.Call (.Attribute o "pop" apos) [e] [] pos) (tBM X.K "list" rPopAt to t) :=
  pe_bm PySem.F.plainAttrs_list PySem.F.slot_list_pop PySem.F.type_list_pop mt_popAt ho ha hbase hfew hline hs hplain
theorem pe_listOf (hm : X.mg "list" = none) (ha : PA X [e] t) (hg : Gl X "list" := by rfl) (he : starEach [e] X.env = (false, eval e X.env) :: starEach [] X.env := by rfl) :
    PE X (.Call (.Name "list" p) [e] [] pos) (tCB (fun xs H Q => ∃ p ys, xs = [.ref p] ∧ (SqL X.K H p ys ∨ SqT X.K H p ys) ∧ ∀ l, H l = none → Q (.ref l) (upd H l (.lst ys))) t) :=
  pe_callTy call_list_of hg hm boot_listT ha (by decide) (by decide) he rfl
theorem pe_listRng {p2 pos2 : Pos} (hc : X.calm = true) (hm : X.mg "list" = none) (hm2 : X.mg "range" = none) (ha : PA X [e] t) (hg : Gl X "list" := by rfl) (hg2 : Gl X "range" := by rfl) (he : starEach [e] X.env = (false, eval e X.env) :: starEach [] X.env := by rfl)
    (he2 : starEach [.Call (.Name "range" p2) [e] [] pos2] X.env = (false, eval (.Call (.Name "range" p2) [e] [] pos2) X.env) :: starEach [] X.env := by rfl) :
    PE X (.Call (.Name "list" p) [.Call (.Name "range" p2) [e] [] pos2] [] pos) (tCB (fun xs H Q => ∃ p lo hi, xs = [.ref p] ∧ H p = some (.rng lo hi) ∧ (-(2 ^ 62) ≤ lo ∧ lo < 2 ^ 62 ∧ -(2 ^ 62) ≤ hi ∧ hi < 2 ^ 62) ∧ (hi - lo).toNat ≤ 2 ^ 20 ∧
    ∀ l, H l = none → Q (.ref l) (upd H l (.lst ((upTo lo (hi - lo).toNat).map V.int)))) (tCons (tCB (fun xs H Q => ∃ j, xs = [.int j] ∧ ∀ p, H p = none → Q (.ref p) (upd H p (.rng 0 j))) t) tNil)) :=
  pe_callTy (call_list_rng hc) hg hm boot_listT (pa_cons (pe_callTy call_range1 hg2 hm2 boot_rangeT ha (by decide) (by decide) he rfl) pa_nil he2) (by decide) (by decide) he2 rfl
theorem pe_sum (hc : X.calm = true) (hm : X.mg "sum" = none) (ha : PA X [e] t) (hg : Gl X "sum" := by rfl) (he : starEach [e] X.env = (false, eval e X.env) :: starEach [] X.env := by rfl) :
    PE X (.Call (.Name "sum" p) [e] [] pos) (tCB (fun xs H Q => ∃ (p : Addr) (ns : List Int), xs = [.ref p] ∧ SqL X.K H p (ns.map V.int) ∧ Q (.int ns.sum) H) t) :=
  pe_callB (call_sumI hc) hg hm boot_sumB ha (by decide) (by decide) he rfl
theorem pe_min2 {a b : Expr} (hc : X.calm = true) (hm : X.mg "min" = none) (ha : PA X [a, b] t) (hg : Gl X "min" := by rfl) (he : starEach [a, b] X.env = (false, eval a X.env) :: starEach [b] X.env := by rfl) (hpl : (backTo pos (starEach [b] X.env)).any (·.1) = false := by rfl) :
    PE X (.Call (.Name "min" p) [a, b] [] pos) (tCB (fun xs H Q => ∃ i j, xs = [.int i, .int j] ∧ Q (.int (if j < i then j else i)) H) t) :=
  pe_callB (call_min2 hc) hg hm boot_minB ha (by decide) (by decide) he hpl
theorem pe_max2 {a b : Expr} (hc : X.calm = true) (hm : X.mg "max" = none) (ha : PA X [a, b] t) (hg : Gl X "max" := by rfl) (he : starEach [a, b] X.env = (false, eval a X.env) :: starEach [b] X.env := by rfl) (hpl : (backTo pos (starEach [b] X.env)).any (·.1) = false := by rfl) :
    PE X (.Call (.Name "max" p) [a, b] [] pos) (tCB (fun xs H Q => ∃ i j, xs = [.int i, .int j] ∧ Q (.int (if j > i then j else i)) H) t) :=
  pe_callB (call_max2 hc) hg hm boot_maxB ha (by decide) (by decide) he hpl
end
end L2
namespace Mth
theorem perm_erase {α : Type} : ∀ {l : List α} {k : Nat} {y : α}, l[k]? = some y → (y :: l.eraseIdx k).Perm l
  | [], k, y, h => by simp at h
  | a :: r, 0, y, h => by
    simp at h
    subst h
    exact List.Perm.refl _
  | a :: r, k + 1, y, h => by
    have h' : r[k]? = some y := by simpa using h
    have ih := perm_erase h'
    show (y :: a :: r.eraseIdx k).Perm (a :: r)
    exact (List.Perm.swap a y _).trans (ih.cons a)
theorem take_bound {u s : Int} (h1 : 0 ≤ u) (h2 : u < 10000001000) (h3 : 0 ≤ s) (h4 : s ≤ 1000001) : 0 ≤ u * (37 * s + 67) + 3557 * s * s ∧ u * (37 * s + 67) + 3557 * s * s < 2 ^ 64 := by
  have a1 : 0 ≤ 37 * s + 67 := by omega
  have a2 : 37 * s + 67 ≤ 37000200 := by omega
  have b1 : 0 ≤ u * (37 * s + 67) := Int.mul_nonneg h1 a1
  have b2 : u * (37 * s + 67) ≤ 10000001000 * 37000200 := Int.mul_le_mul (by omega) a2 a1 (by omega)
  have c0 : 0 ≤ 3557 * s := by omega
  have c1 : 0 ≤ 3557 * s * s := Int.mul_nonneg c0 h3
  have c2 : 3557 * s * s ≤ (3557 * 1000001) * 1000001 := Int.mul_le_mul (by omega) h4 h3 (by omega)
  have e : (2 : Int) ^ 64 = 18446744073709551616 := by decide
  rw [e]
  omega
end Mth
namespace L2
open PySem PySem.Spec PyProof.Rows
def tLenL (K : PySem.W.Frag) (ta : TA) : TE := tCB (fun xs H Q => ∃ p ys, xs = [.ref p] ∧ (SqL K H p ys ∨ SqT K H p ys) ∧ Q (.int ys.length) H) ta
section
variable {X : Cx} {p pos : Pos} {e : Expr} {t : TA}
theorem pe_lenLK (K : PySem.W.Frag) (hm : X.mg "len" = none) (ha : PA X [e] t) (hK : X.K = K := by rfl) (hg : Gl X "len" := by rfl)
    (he : starEach [e] X.env = (false, eval e X.env) :: starEach [] X.env := by rfl) : PE X (.Call (.Name "len" p) [e] [] pos) (tLenL K t) := by
  subst hK
  exact pe_lenL hm ha hg he
end
theorem rep_zero (n : Nat) : (List.replicate n [V.int 0]).flatten = (List.replicate n (0 : Int)).map V.int := by
  induction n with
  | zero => rfl
  | succ n ih => rw [List.replicate_succ, List.flatten_cons, ih, List.replicate_succ, List.map_cons]; rfl
def unInt : V → Int
  | .int i => i
  | _ => 0
theorem perm_ints {ys : List V} {xs : List Int} (h : ys.Perm (xs.map V.int)) : ∃ ps : List Int, ys = ps.map V.int ∧ ps.Perm xs := by
  refine ⟨ys.map unInt, ?_, ?_⟩
  · rw [List.map_map]
    conv => lhs; rw [← List.map_id ys]
    refine List.map_congr_left fun y hy => ?_
    obtain ⟨i, _, rfl⟩ := List.mem_map.mp (h.mem_iff.mp hy)
    rfl
  · have := h.map unInt
    rw [List.map_map] at this
    have e : xs.map (unInt ∘ V.int) = xs := by
      conv => rhs; rw [← List.map_id xs]
      rfl
    rw [e] at this
    exact this
end L2
namespace Mth
theorem at0_ne {fs : List Int} {u v x : Int} (hu : 0 ≤ u) (hv : 0 ≤ v) (h : u ≠ v) : at0 (fs.set v.toNat x) u = at0 fs u := by
  unfold at0
  rw [List.getElem?_set_ne (by omega)]
theorem at0_same {fs : List Int} {v x : Int} (h : v.toNat < fs.length) : at0 (fs.set v.toNat x) v = some x := by
  unfold at0
  rw [List.getElem?_set_self h]
theorem getD_eq {ts : List Int} {i : Nat} (h : i < ts.length) : ts.getD i 0 = ts[i] := by
  rw [List.getD_eq_getElem?_getD, List.getElem?_eq_getElem h]
  rfl
theorem nodup_getD {ts : List Int} (nd : ts.Nodup) {i j : Nat} (hi : i < ts.length) (hj : j < ts.length) (h : i ≠ j) : ts.getD i 0 ≠ ts.getD j 0 := by
  rw [getD_eq hi, getD_eq hj]
  rcases Nat.lt_or_gt_of_ne h with z | z
  · exact List.pairwise_iff_getElem.mp (List.nodup_iff_pairwise_ne.mp nd) i j hi hj z
  · exact fun e => List.pairwise_iff_getElem.mp (List.nodup_iff_pairwise_ne.mp nd) j i hj hi z e.symm
theorem seg_done {ts fs qs : List Int} {k L : Nat} (hL : 1 ≤ L) (hb : k + L ≤ ts.length) (h1 : (ts.take k).map (at0 fs) = qs.map some) (hq : qs.Perm (ts.take k))
    (h2 : ∀ j, j < L → at0 fs (ts.getD (k + j) 0) = some (ts.getD (k + (j + 1) % L) 0)) : ∃ qs' : List Int, qs'.Perm (ts.take (k + L)) ∧ (ts.take (k + L)).map (at0 fs) = qs'.map some := by
  have hT : ((ts.drop k).take L).length = L := by rw [List.length_take, List.length_drop]; omega
  have hTj : ∀ j, j < L → ((ts.drop k).take L)[j]? = some (ts.getD (k + j) 0) := fun j hj => by
    rw [List.getElem?_take_of_lt hj, List.getElem?_drop, getD_eq (by omega), List.getElem?_eq_getElem (by omega)]
  have e : ((ts.drop k).take L).map (at0 fs) = (((ts.drop k).take L).drop 1 ++ ((ts.drop k).take L).take 1).map some := by
    refine List.ext_getElem? fun j => ?_
    by_cases hj : j < L
    · rw [List.getElem?_map, hTj j hj, List.getElem?_map]
      show some (at0 fs (ts.getD (k + j) 0)) = _
      rw [h2 j hj]
      by_cases hj1 : j + 1 < L
      · rw [List.getElem?_append_left (by rw [List.length_drop, hT]; omega), List.getElem?_drop, Nat.add_comm 1 j, hTj (j + 1) hj1, Nat.mod_eq_of_lt hj1]
        rfl
      · have hjL : j + 1 = L := by omega
        rw [List.getElem?_append_right (by rw [List.length_drop, hT]; omega), List.length_drop, hT, hjL, Nat.mod_self]
        have : j - (L - 1) = 0 := by omega
        rw [this, List.getElem?_take_of_lt (by omega), hTj 0 (by omega)]
        rfl
    · rw [List.getElem?_eq_none (by rw [List.length_map, hT]; omega), List.getElem?_eq_none]
      rw [List.length_map, List.length_append, List.length_drop, List.length_take (i := 1), hT]
      omega
  refine ⟨qs ++ (((ts.drop k).take L).drop 1 ++ ((ts.drop k).take L).take 1), ?_, ?_⟩
  · rw [List.take_add]
    refine List.Perm.append hq ?_
    refine List.perm_append_comm.trans ?_
    rw [List.take_append_drop]
  · rw [List.take_add, List.map_append, List.map_append, h1, e]
theorem sum_take_le {ls : List Int} (h : ∀ x ∈ ls, 1 ≤ x) (i : Nat) : 0 ≤ (ls.take i).sum ∧ (ls.take i).sum ≤ ls.sum := by
  have nn : ∀ l : List Int, (∀ x ∈ l, 1 ≤ x) → 0 ≤ l.sum := by
    intro l
    induction l with
    | nil => intro _; simp
    | cons a r ih =>
      intro h
      have h1 := h a List.mem_cons_self
      have h2 := ih fun x hx => h x (List.mem_cons_of_mem _ hx)
      rw [List.sum_cons]; omega
  refine ⟨nn _ fun x hx => h x (List.mem_of_mem_take hx), ?_⟩
  have e : ls.sum = (ls.take i).sum + (ls.drop i).sum := by
    rw [← List.sum_append, List.take_append_drop]
  have := nn (ls.drop i) fun x hx => h x (List.mem_of_mem_drop hx)
  omega
theorem len_le_sum {ls : List Int} (h : ∀ x ∈ ls, 1 ≤ x) : (ls.length : Int) ≤ ls.sum := by
  induction ls with
  | nil => simp
  | cons a r ih =>
    have h1 := h a List.mem_cons_self
    have h2 := ih fun x hx => h x (List.mem_cons_of_mem _ hx)
    rw [List.sum_cons, List.length_cons]; omega
theorem sum_snoc (ls : List Int) (x : Int) : (ls ++ [x]).sum = ls.sum + x := by
  rw [List.sum_append]; simp
end Mth
namespace L2
open PySem PySem.Spec PyProof.Rows
theorem Same.kb {a : Addr} {H H1 H2 : Hp} (s : Same H H1) (k : KeepBut a H1 H2) (h : H a = none) : Same H H2 := fun b o e => k b o (s b o e) (ne_of_none e h)
def RowsH (H : Hp) (as : List Addr) (rs : List (List Int)) : Prop := as.length = rs.length ∧ ∀ (j : Nat) a r, as[j]? = some a → rs[j]? = some r → H a = some (.lst (r.map V.int))
theorem map_int_inj {a b : List Int} (h : a.map V.int = b.map V.int) : a = b := (List.map_inj_right (fun x y (h : V.int x = V.int y) => V.int.inj h)).mp h
theorem leq_rowsH {K : PySem.W.Frag} {H : Hp} {as bs : List Addr} {rs qs : List (List Int)} (ha : RowsH H as rs) (hb : RowsH H bs qs) : LEq K H 1 (as.map V.ref) (bs.map V.ref) (decide (rs = qs)) := by
  by_cases hl : as.length = bs.length
  · refine .inr ⟨fun j => decide (rs[j]? = qs[j]?), by simpa using hl, fun j x y e1 e2 => ?_, ?_⟩
    · rw [List.getElem?_map] at e1 e2
      cases h1 : as[j]? with
      | none => rw [h1] at e1; cases e1
      | some a =>
        cases h2 : bs[j]? with
        | none => rw [h2] at e2; cases e2
        | some b =>
          rw [h1] at e1; rw [h2] at e2
          cases e1; cases e2
          have j1 : j < as.length := (List.getElem?_eq_some_iff.mp h1).1
          have k1 : rs[j]? = some (rs[j]'(by rw [← ha.1]; exact j1)) := List.getElem?_eq_getElem _
          have k2 : qs[j]? = some (qs[j]'(by rw [← hb.1, ← hl]; exact j1)) := List.getElem?_eq_getElem _
          have q1 := ha.2 j a _ h1 k1
          have q2 := hb.2 j b _ h2 k2
          show EqD K H 1 _ _ (decide (rs[j]? = qs[j]?))
          rw [k1, k2]
          generalize (rs[j]'(by rw [← ha.1]; exact j1)) = r at q1 ⊢
          generalize (qs[j]'(by rw [← hb.1, ← hl]; exact j1)) = q at q2 ⊢
          by_cases hab : a = b
          · subst hab
            rw [q1] at q2
            have e' : r = q := map_int_inj (HO.lst.inj (Option.some.inj q2))
            rw [e', decide_eq_true rfl]
            exact .same a
          · rcases leq_ints K H 0 r q with ⟨h3, h4⟩ | ⟨e, h3, h4, h5⟩
            · have := EqD.lens (n := 0) hab (SqL.of (K := K) q1) (SqL.of q2) h3
              rw [decide_eq_false (fun z => by
                have z' : r = q := Option.some.inj z
                exact h3 (by rw [z']))]
              exact this
            · have := EqD.lists (n := 0) e hab (SqL.of (K := K) q1) (SqL.of q2) h3 h4
              rw [← h5] at this
              have e6 : decide (r = q) = decide (some r = some q) := by
                by_cases z : r = q
                · subst z; simp
                · rw [decide_eq_false z, decide_eq_false fun w => z (Option.some.inj w)]
              rw [← e6]
              exact this
    · rw [Bool.eq_iff_iff, decide_eq_true_iff, all_range_iff]
      constructor
      · intro h j _; subst h; simp
      · intro h
        refine List.ext_getElem? fun j => ?_
        by_cases hj : j < rs.length
        · exact of_decide_eq_true (h j (by rw [List.length_map, ha.1]; exact hj))
        · rw [List.getElem?_eq_none (by omega), List.getElem?_eq_none (by rw [← hb.1, ← hl, ha.1]; omega)]
  · refine .inl ⟨by simpa using hl, ?_⟩
    exact decide_eq_false fun h => hl (by rw [ha.1, hb.1, h])
end L2
namespace Mth
theorem isT_getD {p : List Int} (t : IsT p) {j : Nat} (h : j < p.length) : 0 ≤ p.getD j 0 ∧ p.getD j 0 < p.length := by
  rw [getD_eq h]
  exact ⟨t.lo _ (List.getElem_mem h), t.hi _ (List.getElem_mem h)⟩
theorem comp_length (p q : List Int) : (comp p q).length = q.length := by unfold comp; rw [List.length_map]
end Mth
namespace L2
open PySem PySem.Spec PyProof.Rows
def Ite (K : PySem.W.Frag) (a : Addr) : It :=
  ⟨fun i H => ∃ xs x, SqL K H a xs ∧ xs[i]? = some x, fun i H v H' => ∃ x t, (∀ xs, SqL K H a xs → xs[i]? = some x) ∧ H t = none ∧ v = .ref t ∧ H' = upd H t (.tup [.int (i : Int), x]), fun i H => ∃ xs, SqL K H a xs ∧ xs.length ≤ i⟩
theorem turn_enum {P : Program} {w : World} {K : PySem.W.Frag} {elts : List Expr} {x1} {pos : Pos} (a e it : Addr) (hne : e ≠ it) :
    Turn P w K (.Tuple elts x1 pos) (Ite K a) [e, it] e (fun i h => (∃ old, IsEnum h e it i old) ∧ h.IsListIter it a i) where
  mem := by simp
  obj := fun i h st b hb => by
    obtain ⟨⟨old, he⟩, ⟨o, ho, c, d⟩⟩ := st
    have hb : b = e ∨ b = it := by simpa using hb
    rcases hb with rfl | rfl
    · exact ⟨_, he, fun v z => by cases z⟩
    · exact ⟨o, ho, fun v z => by rw [d] at z; cases z⟩
  keep := fun i h h' st k => ⟨let ⟨old, he⟩ := st.1; ⟨old, k e (by simp) _ he⟩, st.2.at fun o q => k it (by simp) o q⟩
  item := by
    intro X hP hw hK hc i pins s σ H E I hf st hg
    subst hP hw hK
    obtain ⟨⟨old, he⟩, hit⟩ := st
    obtain ⟨xs, x, hq, hx⟩ := hg
    obtain ⟨its, rv, p, hz⟩ := I.list hq
    obtain ⟨u, hu, ru⟩ := rv.get hx
    obtain ⟨f0, f1, f2, f3, f4, f5⟩ := hf e (by simp)
    obtain ⟨g0, g1, g2, g3, g4, g5⟩ := hf it (by simp)
    refine wpAny_pyNext_enum_item he hit p.isList (x := u) (by simpa using hu) hne fun h' he' hit' ht' hz' hk' => ?_
    refine ⟨_, rfl, wpAny_letOwnedTupleGo_enum he' fun h2 he2 hs2 => ?_⟩
    have hs2 : Heap.SameBut e h' h2 := hs2
    have eT : e ≠ s.heap.objs.size := Nat.ne_of_lt (Heap.lt_size he)
    have ht2 : h2.get? s.heap.objs.size = some { cls := .type "tuple", data := .seq #[.int i s.toks, u] } := hs2.extBut _ _ eT.symm ht'
    have kk : ∀ b o, b ≠ e → b ≠ it → s.heap.get? b = some o → h2.get? b = some o := fun b o b1 b2 q => hs2.extBut b o b1 (hk' b o b1 b2 q)
    have hn : H s.heap.objs.size = none := I.hok.fresh (Nat.le_refl _)
    have nT : ∀ b u', H b = some u' → b ≠ s.heap.objs.size := fun b u' q => ne_of_none q hn
    have ne : ∀ b u', H b = some u' → b ≠ e ∧ b ≠ it := fun b u' q => ⟨fun z => (by rw [z, f0] at q; cases q), fun z => (by rw [z, g0] at q; cases q)⟩
    have I1 : Inv X pins σ (upd H s.heap.objs.size (.tup [.int (i : Int), x])) { s with heap := h2, gens := s.gens, drawn := s.drawn, toks := s.toks + 1 } := by
      refine I.step (ch := [e, it]) (fun b hb => ?_) (fun b o _ _ hc q _ => kk b o (fun z => hc (by simp [z])) (fun z => hc (by simp [z])) q) (fun b o _ _ hc q _ => ⟨o.slots, kk b o (fun z => hc (by simp [z])) (fun z => hc (by simp [z])) q⟩)
        (fun b o hc q n => by rw [upd_ne (Nat.ne_of_lt (Heap.lt_size q))]; exact n) (fun b o hc q => ⟨o, kk b o (fun z => hc (by simp [z])) (fun z => hc (by simp [z])) q⟩)
        (fun b ys q => by rw [upd_ne (nT b _ q)]; exact q) (fun b o ys q => by rw [upd_ne (nT b _ q)]; exact q) (fun b ps q => ⟨#[], by rw [upd_ne (nT b _ q), q]; simp⟩) (fun m hm => ?_) (fun b u' q => ?_) I.bare
      · have hb : b = e ∨ b = it := by simpa using hb
        rcases hb with rfl | rfl
        · exact ⟨f3, f1, f4, f5⟩
        · exact ⟨g3, g1, g4, g5⟩
      · obtain ⟨o, es, ep, ho, r⟩ := hm
        exact ⟨o, es, ep, kk _ o (Ne.symm f1) (Ne.symm g1) ho, r⟩
      · by_cases hb : b = s.heap.objs.size
        · subst hb
          rw [upd_same] at q
          cases q
          exact ⟨by show 2 ≤ sizeLine; decide, [.int i s.toks, u], .cons ⟨_, rfl⟩ (.cons ru .nil), ⟨_, ht2, rfl, 0, rfl⟩⟩
        · rw [upd_ne hb] at q
          refine (I.hok b u' q).stay (fun c v hc q' => ?_) (fun c q' => by rw [upd_ne (nT c _ q')]; exact q') fun c ys q' => by rw [upd_ne (nT c _ q')]; exact q'
          rcases hc with z | z
          · rw [z] at q' ⊢; exact kk b v (ne b _ q).1 (ne b _ q).2 q'
          · exact kk c v (ne c _ z).1 (ne c _ z).2 q'
    refine ⟨.ref s.heap.objs.size, _, I1, rfl, ⟨x, s.heap.objs.size, fun ys hy => by rw [I.list_inj hy hq]; exact hx, hn, rfl, rfl⟩, ⟨⟨u, ?_⟩, ?_⟩, fun b hb => ?_⟩
    · have : ((i + 1 : Nat) : Int) = (i : Int) + 1 := by push_cast; rfl
      rw [this]
      exact he2
    · exact hit'.extBut hs2.extBut hne.symm
    · have hb : b = e ∨ b = it := by simpa using hb
      rcases hb with rfl | rfl
      · rw [upd_ne eT]; exact f0
      · obtain ⟨o, ho, _⟩ := hit
        rw [upd_ne (Nat.ne_of_lt (Heap.lt_size ho))]; exact g0
  done := by
    intro X hP hw hK hc i pins s σ H E I hf st hg
    subst hP hw hK
    obtain ⟨⟨old, he⟩, hit⟩ := st
    obtain ⟨xs, hq, hx⟩ := hg
    obtain ⟨its, rv, p, hz⟩ := I.list hq
    obtain ⟨g0, g1, g2, g3, g4, g5⟩ := hf it (by simp)
    have hl := rv.length
    exact wpAny_pyNext_enum_end (I.ok.hd hc) he hit p.isList (by simp; omega) fun h' eb => ⟨rfl, I.turned (t' := s.toks) (fun b o hb q => eb b o hb q) g0 g1 g3 g4 g5⟩
  self := fun _ _ _ _ _ st h => let ⟨_, he⟩ := st.1; wpAny_pyIter_enum he h
theorem boot_enum : bootBuiltins "enumerate" = some (.type "enumerate") := by decide +kernel
section
variable {X : Cx} {l : Expr} {ta : TA} {p pos : Pos} {elts : List Expr} {x1 : Nat} {tpos : Pos}
def iEnum (K : PySem.W.Frag) (ta : TA) : TI := fun σ H R => ta σ H fun vs H1 => ∃ a, vs = [.ref a] ∧ (∃ xs, SqL K H1 a xs) ∧ R (Ite K a) H1
theorem pi_enum (hm : X.mg "enumerate" = none) (ha : PA X [l] ta) (hg : Gl X "enumerate" := by rfl) (hs : starEach [l] X.env = [(false, eval l X.env)] := by rfl) : PI X (.Tuple elts x1 tpos) (.Call (.Name "enumerate" p) [l] [] pos) (iEnum X.K ta) := by
  intro pins s σ H R I h
  refine Call_ (ld_blt I hg hm boot_enum (PyProof.Rows.callWith_type1 (thn (ha pos pins s σ H _ I h) fun us s1 ⟨vs, H1, I1, r1, q1⟩ => ?_) hs rfl))
  obtain ⟨a, e, ⟨xs, hq⟩, q⟩ := q1
  subst e
  obtain ⟨u, rfl, rx⟩ := vals1 r1
  cases rx
  obtain ⟨its, rv, pl, hz⟩ := I1.list hq
  refine call_enumerate_list pl.isList fun h' he hit hz' hk => ?_
  refine wpAny_pyIter_enum he ?_
  have I2 : Inv X pins σ H1 { s1 with heap := h', toks := s1.toks } := I1.kept (t' := s1.toks) hk
  refine ⟨s1.heap.objs.size + 1, [s1.heap.objs.size + 1, s1.heap.objs.size], _, _, H1, rfl, I2, turn_enum a (s1.heap.objs.size + 1) s1.heap.objs.size (Nat.succ_ne_self _), ⟨⟨.none, he⟩, hit⟩, fun b hb => ?_, q⟩
  have hb : b = s1.heap.objs.size + 1 ∨ b = s1.heap.objs.size := by simpa using hb
  rcases hb with rfl | rfl
  · exact I1.fpOk (by omega) (I1.hok.fresh (by omega))
  · exact I1.fpOk (by omega) (I1.hok.fresh (by omega))
end
theorem for_enum {K : PySem.W.Frag} {a : Addr} {xs : List V} {g : TG} {tb : TS} {D : Ends} {σ : St} {H : Hp} (Pv : Nat → St → Hp → Prop) (h0 : Pv 0 σ H) (hl : ∀ i σ H, i ≤ xs.length → Pv i σ H → SqL K H a xs)
    (hs : ∀ i x σ H t, xs[i]? = some x → Pv i σ H → H t = none → g (.ref t) σ (upd H t (.tup [.int (i : Int), x])) fun σ2 H2 => tb { D with nx := Pv (i + 1), ct := Pv (i + 1), bk := D.nx } σ2 H2) (hd : ∀ σ H, Pv xs.length σ H → D.nx σ H) :
    ∃ W : Nat → Nat → St → Hp → Prop, (∃ m, W 0 m σ H) ∧ ∀ i m σ H, W i m σ H →
      ((Ite K a).stop i H ∧ D.nx σ H) ∨ ((Ite K a).go i H ∧ ∃ N : St → Hp → Prop, (∀ σ' H', N σ' H' → ∃ m', m' < m ∧ W (i + 1) m' σ' H') ∧ ∀ x H', (Ite K a).yld i H x H' → g x σ H' fun σ2 H2 => tb { D with nx := N, ct := N, bk := D.nx } σ2 H2) := by
  refine ⟨fun i m σ H => m = xs.length - i ∧ i ≤ xs.length ∧ Pv i σ H, ⟨xs.length, by simp, Nat.zero_le _, h0⟩, ?_⟩
  rintro i m σ H ⟨rfl, hi, p⟩
  have q := hl i σ H hi p
  by_cases hlt : i < xs.length
  · refine .inr ⟨⟨xs, xs[i], q, by simp [hlt]⟩, Pv (i + 1), fun σ' H' p' => ⟨xs.length - (i + 1), by omega, rfl, hlt, p'⟩, fun x H' y => ?_⟩
    obtain ⟨x', t, y1, y2, e1, e2⟩ := y
    subst e1 e2
    exact hs i x' σ _ t (y1 xs q) p y2
  · have e : i = xs.length := by omega
    subst e
    exact .inl ⟨⟨xs, q, Nat.le_refl _⟩, hd σ H p⟩
end L2
namespace Mth
def nx (p : List Int) (x : Int) : Int := p.getD x.toNat 0
def it (p : List Int) : Nat → Int → Int
  | 0, x => x
  | i + 1, x => nx p (it p i x)
def In (p : List Int) (x : Int) : Prop := 0 ≤ x ∧ x < p.length
theorem nx_in {p : List Int} (t : IsT p) {x : Int} (h : In p x) : In p (nx p x) := isT_getD t (j := x.toNat) (by have := h.1; have := h.2; omega)
theorem nx_inj {p : List Int} (t : IsT p) {x y : Int} (hx : In p x) (hy : In p y) (h : nx p x = nx p y) : x = y := by
  have a1 := hx.1
  have a2 := hx.2
  have b1 := hy.1
  have b2 := hy.2
  by_cases e : x.toNat = y.toNat
  · omega
  · exact absurd h (nodup_getD t.nd (i := x.toNat) (j := y.toNat) (by omega) (by omega) e)
theorem it_in {p : List Int} (t : IsT p) {x : Int} (h : In p x) : ∀ i, In p (it p i x)
  | 0 => h
  | i + 1 => nx_in t (it_in t h i)
theorem it_add (p : List Int) (x : Int) : ∀ i j, it p (i + j) x = it p i (it p j x)
  | 0, j => by rw [Nat.zero_add]; rfl
  | i + 1, j => by
    rw [Nat.add_right_comm]
    show nx p (it p (i + j) x) = nx p (it p i (it p j x))
    rw [it_add p x i j]
theorem it_inj {p : List Int} (t : IsT p) {x y : Int} (hx : In p x) (hy : In p y) : ∀ i, it p i x = it p i y → x = y
  | 0, h => h
  | i + 1, h => it_inj t hx hy i (nx_inj t (it_in t hx i) (it_in t hy i) h)
structure Per (p : List Int) (x : Int) (L : Nat) : Prop where
  pos : 0 < L
  back : it p L x = x
  least : ∀ i, 0 < i → i < L → it p i x ≠ x
theorem Per.uniq {p : List Int} {x : Int} {L M : Nat} (h : Per p x L) (g : Per p x M) : L = M := by
  rcases Nat.lt_trichotomy L M with z | z | z
  · exact absurd h.back (g.least L h.pos z)
  · exact z
  · exact absurd g.back (h.least M g.pos z)
theorem it_mul {p : List Int} {x : Int} {L : Nat} (h : it p L x = x) : ∀ q, it p (L * q) x = x
  | 0 => by rw [Nat.mul_zero]; rfl
  | q + 1 => by rw [Nat.mul_succ, it_add, h, it_mul h q]
theorem it_mod {p : List Int} {x : Int} {L : Nat} (h : it p L x = x) (i : Nat) : it p (i % L) x = it p i x := by
  conv => rhs; rw [← Nat.div_add_mod i L, Nat.add_comm, it_add, it_mul h]
theorem it_cong {p : List Int} {x : Int} {L : Nat} (h : it p L x = x) {a b : Nat} (e : a % L = b % L) : it p a x = it p b x := by
  rw [← it_mod h a, e, it_mod h]
theorem Per.shift {p : List Int} (t : IsT p) {x : Int} {L : Nat} (hx : In p x) (h : Per p x L) (j : Nat) : Per p (it p j x) L := by
  refine ⟨h.pos, ?_, fun i i0 i1 e => ?_⟩
  · rw [← it_add, Nat.add_comm, it_add, h.back]
  · rw [← it_add, Nat.add_comm, it_add] at e
    exact h.least i i0 i1 (it_inj t (it_in t hx i) hx j e)
def ringL (p : List Int) (x : Int) (L : Nat) : List Int := (List.range L).map fun i => it p i x
theorem ringL_len (p : List Int) (x : Int) (L : Nat) : (ringL p x L).length = L := by unfold ringL; rw [List.length_map, List.length_range]
theorem ringL_get {p : List Int} {x : Int} {L j : Nat} (h : j < L) : (ringL p x L)[j]? = some (it p j x) := by
  unfold ringL
  rw [List.getElem?_map, List.getElem?_range h]
  rfl
theorem ringL_getD {p : List Int} {x : Int} {L j : Nat} (h : j < L) : (ringL p x L).getD j 0 = it p j x := by
  rw [List.getD_eq_getElem?_getD, ringL_get h]; rfl
theorem mem_ringL {p : List Int} {x y : Int} {L : Nat} : y ∈ ringL p x L ↔ ∃ j, j < L ∧ y = it p j x := by
  unfold ringL
  rw [List.mem_map]
  constructor
  · rintro ⟨j, hj, rfl⟩
    exact ⟨j, List.mem_range.mp hj, rfl⟩
  · rintro ⟨j, hj, rfl⟩
    exact ⟨j, List.mem_range.mpr hj, rfl⟩
theorem ringL_succ (p : List Int) (x : Int) (m : Nat) : ringL p x (m + 1) = ringL p x m ++ [it p m x] := by
  unfold ringL
  rw [List.range_succ, List.map_append]
  rfl
theorem ringL_nodup {p : List Int} (t : IsT p) {x : Int} (hx : In p x) {m : Nat} (h : ∀ i, 0 < i → i < m → it p i x ≠ x) : (ringL p x m).Nodup := by
  unfold ringL
  rw [List.nodup_iff_pairwise_ne, List.pairwise_map]
  refine List.Pairwise.imp_of_mem (fun {a b} ha hb hlt e => ?_) List.pairwise_lt_range
  have hb := List.mem_range.mp hb
  have e2 : b = a + (b - a) := by omega
  rw [e2, it_add] at e
  exact h (b - a) (by omega) (by omega) (it_inj t (it_in t hx _) hx a e.symm)
theorem nodup_len : ∀ (n : Nat) (l : List Nat), l.Nodup → (∀ x ∈ l, x < n) → l.length ≤ n := by
  intro n
  induction n with
  | zero =>
    intro l _ hb
    cases l with
    | nil => exact Nat.le_refl _
    | cons a r => exact absurd (hb a List.mem_cons_self) (Nat.not_lt_zero _)
  | succ n ih =>
    intro l nd hb
    by_cases hn : n ∈ l
    · obtain ⟨s, u, rfl⟩ := List.append_of_mem hn
      have pm : (s ++ n :: u).Perm (n :: (s ++ u)) := List.perm_middle
      obtain ⟨h1, h2⟩ := List.nodup_cons.mp (pm.nodup_iff.mp nd)
      have := ih (s ++ u) h2 fun x hx => by
        have hx' := hb x (pm.mem_iff.mpr (List.mem_cons_of_mem _ hx))
        have : x ≠ n := fun e => h1 (e ▸ hx)
        omega
      rw [pm.length_eq, List.length_cons]
      omega
    · exact Nat.le_succ_of_le (ih l nd fun x hx => by
        have h1 := hb x hx
        have : x ≠ n := fun e => hn (e ▸ hx)
        omega)
theorem nodup_len_in {p : List Int} {r : List Int} (nd : r.Nodup) (h : ∀ x ∈ r, In p x) : r.length ≤ p.length := by
  have := nodup_len p.length (r.map Int.toNat) (by
    rw [List.nodup_iff_pairwise_ne, List.pairwise_map]
    refine List.Pairwise.imp_of_mem (fun {a b} ha hb hne z => hne ?_) (List.nodup_iff_pairwise_ne.mp nd)
    have h1 := (h a ha).1
    have h2 := (h b hb).1
    omega) fun x hx => by
      obtain ⟨y, hy, rfl⟩ := List.mem_map.mp hx
      have h1 := (h y hy).1
      have h2 := (h y hy).2
      omega
  rw [List.length_map] at this
  exact this
theorem ringL_in {p : List Int} (t : IsT p) {x : Int} (hx : In p x) {L : Nat} : ∀ y ∈ ringL p x L, In p y := fun y hy => by
  obtain ⟨j, _, rfl⟩ := mem_ringL.mp hy
  exact it_in t hx j
theorem ring_bound {p : List Int} (t : IsT p) {x : Int} (hx : In p x) {m : Nat} (h : ∀ i, 0 < i → i < m → it p i x ≠ x) : m ≤ p.length := by
  have := nodup_len_in (ringL_nodup t hx h) (ringL_in t hx)
  rw [ringL_len] at this
  exact this
theorem ring_closed {p : List Int} {x y : Int} {L : Nat} (h : Per p x L) (hy : y ∈ ringL p x L) (i : Nat) : it p i y ∈ ringL p x L := by
  obtain ⟨j, hj, rfl⟩ := mem_ringL.mp hy
  refine mem_ringL.mpr ⟨(i + j) % L, Nat.mod_lt _ h.pos, ?_⟩
  rw [it_mod h.back, it_add]
theorem ring_meet {p : List Int} {x y z : Int} {L M : Nat} (h : Per p x L) (g : Per p y M) (h1 : z ∈ ringL p x L) (h2 : z ∈ ringL p y M) : y ∈ ringL p x L := by
  obtain ⟨j, hj, rfl⟩ := mem_ringL.mp h2
  have := ring_closed h h1 (M - j)
  rw [← it_add, show M - j + j = M by omega, g.back] at this
  exact this
open Classical in
noncomputable def perOf (p : List Int) (x : Int) : Nat := if h : ∃ L, Per p x L then Classical.choose h else 0
theorem perOf_eq {p : List Int} {x : Int} {L : Nat} (h : Per p x L) : perOf p x = L := by
  have hx : ∃ L, Per p x L := ⟨L, h⟩
  unfold perOf
  rw [dif_pos hx]
  exact (Classical.choose_spec hx).uniq h
noncomputable def ringsF (p : List Int) : Nat → List (List Int)
  | 0 => []
  | i + 1 => if (i : Int) ∈ (ringsF p i).flatten then ringsF p i else ringsF p i ++ [ringL p i (perOf p i)]
structure RingsUp (p : List Int) (i : Nat) (rs : List (List Int)) : Prop where
  ring : ∀ r ∈ rs, ∃ x L, In p x ∧ Per p x L ∧ r = ringL p x L ∧ (∀ y ∈ r, x ≤ y) ∧ x < i
  nd : rs.flatten.Nodup
  all : ∀ u : Int, 0 ≤ u → u < i → u ∈ rs.flatten
  ord : rs.Pairwise fun r s => r.getD 0 0 < s.getD 0 0
  eq : rs = ringsF p i
theorem rings_none (p : List Int) : RingsUp p 0 [] := ⟨fun r hr => by simp at hr, List.nodup_nil, fun u h1 h2 => by omega, List.Pairwise.nil, rfl⟩
theorem rings_skip {p : List Int} {i : Nat} {rs : List (List Int)} (h : RingsUp p i rs) (hi : (i : Int) ∈ rs.flatten) : RingsUp p (i + 1) rs := by
  refine ⟨fun r hr => ?_, h.nd, fun u h1 h2 => ?_, h.ord, ?_⟩
  · obtain ⟨x, L, a, b, c, d, e⟩ := h.ring r hr
    exact ⟨x, L, a, b, c, d, by omega⟩
  · by_cases e : u = i
    · subst e; exact hi
    · exact h.all u h1 (by omega)
  · show rs = if (i : Int) ∈ (ringsF p i).flatten then ringsF p i else ringsF p i ++ [ringL p i (perOf p i)]
    rw [← h.eq, if_pos hi]
theorem rings_fresh {p : List Int} {i : Nat} {rs : List (List Int)} (h : RingsUp p i rs) {L : Nat} (hL : Per p i L) (hi : (i : Int) ∉ rs.flatten) : ∀ y ∈ ringL p i L, y ∉ rs.flatten := by
  intro y hy hm
  obtain ⟨r, hr, hyr⟩ := List.mem_flatten.mp hm
  obtain ⟨x, M, a, b, rfl, d, e⟩ := h.ring r hr
  exact hi (List.mem_flatten.mpr ⟨_, hr, ring_meet b hL hyr hy⟩)
theorem rings_step {p : List Int} (t : IsT p) {i : Nat} {rs : List (List Int)} (h : RingsUp p i rs) (hx : In p i) {L : Nat} (hL : Per p i L) (hi : (i : Int) ∉ rs.flatten) : RingsUp p (i + 1) (rs ++ [ringL p i L]) := by
  have fr := rings_fresh h hL hi
  refine ⟨fun r hr => ?_, ?_, fun u h1 h2 => ?_, ?_, ?_⟩
  · rcases List.mem_append.mp hr with z | z
    · obtain ⟨x, L, a, b, c, d, e⟩ := h.ring r z
      exact ⟨x, L, a, b, c, d, by omega⟩
    · have : r = ringL p i L := by simpa using z
      subst this
      refine ⟨i, L, hx, hL, rfl, fun y hy => ?_, by omega⟩
      have y0 := (ringL_in t hx y hy).1
      by_cases hlt : y < i
      · exact absurd (h.all y y0 hlt) (fr y hy)
      · omega
  · rw [List.flatten_append, List.flatten_singleton]
    refine List.nodup_append.mpr ⟨h.nd, ringL_nodup t hx fun j j0 j1 => hL.least j j0 j1, fun a ha b hb e => ?_⟩
    subst e
    exact fr a hb ha
  · rw [List.flatten_append, List.flatten_singleton]
    by_cases e : u = i
    · subst e
      exact List.mem_append_right _ (mem_ringL.mpr ⟨0, hL.pos, rfl⟩)
    · exact List.mem_append_left _ (h.all u h1 (by omega))
  · refine List.pairwise_append.mpr ⟨h.ord, List.pairwise_singleton _ _, fun r hr s hs => ?_⟩
    have : s = ringL p i L := by simpa using hs
    subst this
    obtain ⟨x, M, a, b, rfl, d, e⟩ := h.ring r hr
    rw [ringL_getD b.pos, ringL_getD hL.pos]
    exact e
  · show rs ++ [ringL p i L] = if (i : Int) ∈ (ringsF p i).flatten then ringsF p i else ringsF p i ++ [ringL p i (perOf p i)]
    rw [← h.eq, if_neg hi, perOf_eq hL]
def PowIs (p : List Int) (k : Int) (t : List Int) : Prop := t.length = p.length ∧ ∀ x, In p x → ∃ L, Per p x L ∧ at0 t x = some (it p (k % (L : Int)).toNat x)
theorem step_along {p : List Int} {x : Int} {L : Nat} (h : Per p x L) (k : Int) (j : Nat) : it p (((j : Int) + k) % (L : Int)).toNat x = it p (k % (L : Int)).toNat (it p j x) := by
  rw [← it_add]
  refine it_cong h.back ?_
  have hL : (0 : Int) < (L : Int) := by have := h.pos; omega
  have a1 := Int.emod_nonneg ((j : Int) + k) (show (L : Int) ≠ 0 by omega)
  have b1 := Int.emod_nonneg k (show (L : Int) ≠ 0 by omega)
  have : (((((j : Int) + k) % (L : Int)).toNat % L : Nat) : Int) = ((((k % (L : Int)).toNat + j) % L : Nat) : Int) := by
    rw [Int.natCast_emod, Int.natCast_emod, Int.toNat_of_nonneg a1, Int.natCast_add, Int.toNat_of_nonneg b1, Int.emod_emod, Int.emod_add_emod, Int.add_comm]
  exact Int.ofNat.inj this
end Mth
namespace L2
open PySem PySem.Spec PyProof.Rows
section
variable {X : Cx}
def rIndex : V → List V → Hp → VK → Prop := fun x vs H Q => ∃ (l : Addr) (ns : List Int) (v : Int) (j : Nat), x = .ref l ∧ vs = [.int v] ∧ H l = some (.lst (ns.map V.int)) ∧ ns[j]? = some v ∧ (∀ i, i < j → ns[i]? ≠ some v) ∧ ns.length ≤ 1000 ∧ Q (.int j) H
theorem mt_index : MtM X "list.index" rIndex := by
  intro pins s σ H x vs v us Q I rx rv h
  obtain ⟨l, ns, k, j, rfl, rfl, hH, hj, hno, hz, q⟩ := h
  cases rx
  obtain ⟨u, rfl, t, rfl⟩ := rv.one
  obtain ⟨z, its, n, r, hl, e⟩ := I.lstM hH
  have hjl : j < ns.length := (List.getElem?_eq_some_iff.mp hj).1
  have hjI : j < its.length := by rw [List.length_map] at hl; omega
  have at_ : ∀ m (hm : m < its.length), ∃ t', its[m] = Value.int (ns[m]'(by rw [List.length_map] at hl; omega)) t' := fun m hm => by
    have e1 : (ns.map V.int)[m]? = some (V.int (ns[m]'(by rw [List.length_map] at hl; omega))) := by rw [List.getElem?_map, List.getElem?_eq_getElem (by rw [List.length_map] at hl; omega)]; rfl
    obtain ⟨u1, z1, t', q1⟩ := r.get e1
    rw [List.getElem?_eq_getElem hm] at z1
    exact ⟨t', by rw [Option.some.inj z1]; exact q1⟩
  refine call_meets F.slot_list_index ⟨_, e, rfl⟩ F.entry_list_index (F.args_list_index_2 _ _)
    (SeqAt.list_indexAt l its.toArray n none #[] (.int k t) (eqU (.int k)) j (by simpa using hjI) (by omega) ?_ ?_) ⟨e, fun y hy => ?_, ?_⟩
  · obtain ⟨t', q1⟩ := at_ j hjI
    have : its.toArray[j] = Value.int (ns[j]) t' := by simpa using q1
    rw [this]
    have e2 : ns[j] = k := (List.getElem?_eq_some_iff.mp hj).2
    rw [eqU_of (y := .int ns[j]) ⟨t', rfl⟩ rfl, e2]
    show (k == k) = true
    simp
  · intro m hm hmj
    have hm' : m < its.length := by simpa using hm
    obtain ⟨t', q1⟩ := at_ m hm'
    have : its.toArray[m] = Value.int (ns[m]'(by rw [List.length_map] at hl; omega)) t' := by simpa using q1
    rw [this, eqU_of (y := .int _) ⟨t', rfl⟩ rfl]
    show (_ == k) = false
    have := hno m hmj
    rw [List.getElem?_eq_getElem (by omega)] at this
    simpa using this
  · exact mem_eqAt (x := .int k) ⟨t, rfl⟩ rfl r (by rw [List.all_eq_true]; intro y hy; obtain ⟨i, _, rfl⟩ := List.mem_map.mp hy; rfl) y (by simpa using hy)
  · exact ⟨.int j, H, I.tok _, ⟨_, rfl⟩, q⟩
theorem pe_index (K : PySem.W.Frag) {o e : Expr} {to : TE} {t : TA} {apos pos : Pos} (ho : PE X o to) (ha : PA X [e] t) (hK : X.K = K := by rfl)
    (hbase : attributeBase o "index" X.env (eval o X.env) = eval o X.env := by rfl)
    (hfew : ((backTo pos (starEach [e] X.env)).all (fun x => !x.1) && (backToKw pos (keywordEach [] X.env)).all (fun x => x.1.isSome)
      && decide ([e].length + ([] : List Keyword).length + (if ([] : List Keyword).isEmpty then 0 else 1) < 30)) = true := by rfl)
    (hline : (apos.endLine == pos.line) = true := by rfl) (hs : starEach [e] X.env = (false, eval e X.env) :: starEach [] X.env := by rfl) (hplain : (backTo pos (starEach [] X.env)).any (·.1) = false := by rfl) :
    PE X (.Call (.Attribute o "index" apos) [e] [] pos) (tBM K "list" rIndex to t) := by
  subst hK
  exact pe_bm PySem.F.plainAttrs_list PySem.F.slot_list_index PySem.F.type_list_index mt_index ho ha hbase hfew hline hs hplain
end
end L2
namespace Mth
theorem nx_at0 {p : List Int} {x : Int} (h : In p x) : at0 p x = some (nx p x) := by
  have a1 := h.1
  have a2 := h.2
  unfold at0 nx
  rw [List.getD_eq_getElem?_getD, List.getElem?_eq_getElem (by omega)]
  rfl
theorem back_nx {p s : List Int} (t : IsT p) (h : PowIs p (-1) s) {x : Int} (hx : In p x) : ∃ y, at0 s x = some y ∧ In p y ∧ nx p y = x := by
  obtain ⟨L, hL, e⟩ := h.2 x hx
  have hpos := hL.pos
  have e1 : ((-1 : Int) % (L : Int)).toNat = L - 1 := by
    have h1 : (-1 : Int) % (L : Int) = (L : Int) - 1 := by
      have := Int.add_emod_right (-1 : Int) (L : Int)
      rw [← this, Int.emod_eq_of_lt (by omega) (by omega)]
      omega
    rw [h1]; omega
  rw [e1] at e
  refine ⟨_, e, it_in t hx _, ?_⟩
  show it p (L - 1 + 1) x = x
  rw [show L - 1 + 1 = L by omega, hL.back]
theorem back_eq {p s : List Int} (t : IsT p) (h : PowIs p (-1) s) {f : Nat → Int} (hf : ∀ u, u < p.length → ∃ j : Nat, f u = (j : Int) ∧ p[j]? = some (u : Int)) : s = (List.range p.length).map f := by
  refine List.ext_getElem? fun u => ?_
  by_cases hu : u < p.length
  · obtain ⟨y, e, hy, en⟩ := back_nx t h (x := (u : Int)) ⟨by omega, by omega⟩
    obtain ⟨j, e1, e2⟩ := hf u hu
    have hj : j < p.length := (List.getElem?_eq_some_iff.mp e2).1
    have e3 : nx p (j : Int) = (u : Int) := by
      unfold nx
      rw [Int.toNat_natCast, getD_eq hj]
      exact (List.getElem?_eq_some_iff.mp e2).2
    have : y = (j : Int) := nx_inj t hy ⟨by omega, by omega⟩ (by rw [en, e3])
    unfold at0 at e
    rw [Int.toNat_natCast] at e
    rw [e, List.getElem?_map, List.getElem?_range hu, this]
    show some (j : Int) = some (f u)
    rw [e1]
  · rw [List.getElem?_eq_none (by rw [h.1]; omega), List.getElem?_eq_none (by rw [List.length_map, List.length_range]; omega)]
end Mth
namespace L2
open PySem PySem.Spec PyProof.Rows
def CDivB (i j : Int) : Prop := 0 < j ∧ j ≤ 1000000000000000000000000000000
theorem op_fdivB {X : Cx} : OpR X (binaryOp .FloorDiv) (rI CDivB fun i j => .int (i / j)) := opI fun i j _ _ _ _ _ hc q => by
  have hp : Builtin.divisionGoesByPylong i j = false := by
    refine PyProof.noPylong_of_log2 ?_
    obtain ⟨h1, h2⟩ := hc
    have : j.natAbs < 2 ^ 9000 := Nat.lt_of_le_of_lt (show j.natAbs ≤ 1000000000000000000000000000000 by omega) (by decide +kernel)
    exact (Nat.log2_lt (by omega)).mpr this
  refine floordiv_int (by have := hc.1; omega) ?_ (.inl hp)
  rw [Int.fdiv_eq_ediv_of_nonneg i (by have := hc.1; omega)]
  exact q
end L2
namespace Mth
end Mth
namespace Mth
theorem per_ex {p : List Int} (t : IsT p) {x : Int} (hx : In p x) : ∃ L, Per p x L := by
  have h0 : ∃ i, 0 < i ∧ i ≤ p.length ∧ it p i x = x := Classical.byContradiction fun hn => by
    have := ring_bound t hx (m := p.length + 1) fun i i0 i1 e => hn ⟨i, i0, by omega, e⟩
    omega
  have key : ∀ n, (∃ i, 0 < i ∧ i ≤ n ∧ it p i x = x) → ∃ L, Per p x L := by
    intro n
    induction n with
    | zero => rintro ⟨i, i0, i1, _⟩; omega
    | succ n ih =>
      rintro ⟨i, i0, i1, e⟩
      by_cases h : ∃ j, 0 < j ∧ j ≤ n ∧ it p j x = x
      · exact ih h
      · refine ⟨i, i0, e, fun j j0 j1 ej => h ⟨j, j0, by omega, ej⟩⟩
  exact key _ h0
theorem per_dvd {p : List Int} {x : Int} {L : Nat} (h : Per p x L) {i : Nat} (e : it p i x = x) : L ∣ i := by
  rw [← it_mod h.back] at e
  refine Nat.dvd_of_mod_eq_zero (Classical.byContradiction fun hn => ?_)
  exact h.least (i % L) (by omega) (Nat.mod_lt _ h.pos) e
theorem it_congZ {p : List Int} {x : Int} {L : Nat} (h : Per p x L) {a b : Nat} (e : ((a : Int) - (b : Int)) % (L : Int) = 0) : it p a x = it p b x := by
  refine it_cong h.back ?_
  have : ((a % L : Nat) : Int) = ((b % L : Nat) : Int) := by
    rw [Int.natCast_emod, Int.natCast_emod]
    exact Int.emod_emod_of_dvd _ (Int.dvd_refl _) |>.symm.trans (by
      rw [Int.emod_emod]
      exact (Int.emod_eq_emod_iff_emod_sub_eq_zero).mpr e)
  exact Int.ofNat.inj this
theorem ext_nx {n : Nat} {s t : List Int} (hs : s.length = n) (ht : t.length = n) (h : ∀ x : Int, 0 ≤ x → x < n → nx s x = nx t x) : s = t := by
  refine List.ext_getElem? fun u => ?_
  by_cases hu : u < n
  · have := h u (by omega) (by omega)
    unfold nx at this
    rw [Int.toNat_natCast, getD_eq (by omega), getD_eq (by omega)] at this
    rw [List.getElem?_eq_getElem (by omega), List.getElem?_eq_getElem (by omega), this]
  · rw [List.getElem?_eq_none (by omega), List.getElem?_eq_none (by omega)]
theorem isT_of_nx {t : List Int} (h1 : ∀ x : Int, 0 ≤ x → x < t.length → 0 ≤ nx t x ∧ nx t x < t.length) (h2 : ∀ x y : Int, 0 ≤ x → x < t.length → 0 ≤ y → y < t.length → nx t x = nx t y → x = y) : IsT t := by
  have g : ∀ i (hi : i < t.length), nx t (i : Int) = t[i] := fun i hi => by unfold nx; rw [Int.toNat_natCast, getD_eq hi]
  refine ⟨?_, fun x hx => ?_, fun x hx => ?_⟩
  · rw [List.nodup_iff_pairwise_ne, List.pairwise_iff_getElem]
    intro i j hi hj hlt e
    have := h2 i j (by omega) (by omega) (by omega) (by omega) (by rw [g i hi, g j hj]; exact e)
    omega
  · obtain ⟨i, hi, rfl⟩ := List.mem_iff_getElem.mp hx
    rw [← g i hi]; exact (h1 i (by omega) (by omega)).1
  · obtain ⟨i, hi, rfl⟩ := List.mem_iff_getElem.mp hx
    rw [← g i hi]; exact (h1 i (by omega) (by omega)).2
theorem nx_comp {p q : List Int} {x : Int} (h : In q x) : nx (comp p q) x = nx p (nx q x) := by
  have a1 := h.1
  have a2 := h.2
  unfold nx comp
  rw [List.getD_eq_getElem?_getD, List.getElem?_map, List.getElem?_eq_getElem (by omega), List.getD_eq_getElem?_getD (l := q), List.getElem?_eq_getElem (by omega)]
  rfl
theorem isT_comp {p q : List Int} (tp : IsT p) (tq : IsT q) (hl : p.length = q.length) : IsT (comp p q) := by
  have cl := comp_length p q
  refine isT_of_nx (fun x x0 x1 => ?_) (fun x y x0 x1 y0 y1 e => ?_)
  · rw [cl] at x1 ⊢
    have hx : In q x := ⟨x0, x1⟩
    rw [nx_comp hx]
    have h1 := nx_in tq hx
    have h2 := nx_in tp (x := nx q x) ⟨h1.1, by rw [hl]; exact h1.2⟩
    exact ⟨h2.1, by rw [← hl]; exact h2.2⟩
  · rw [cl] at x1 y1
    have hx : In q x := ⟨x0, x1⟩
    have hy : In q y := ⟨y0, y1⟩
    rw [nx_comp hx, nx_comp hy] at e
    have h1 := nx_in tq hx
    have h2 := nx_in tq hy
    exact nx_inj tq hx hy (nx_inj tp ⟨h1.1, by rw [hl]; exact h1.2⟩ ⟨h2.1, by rw [hl]; exact h2.2⟩ e)
theorem pow_nx {p t : List Int} {k : Int} (h : PowIs p k t) {x : Int} (hx : In p x) : ∃ L, Per p x L ∧ ∀ m : Nat, ((m : Int) - k) % (L : Int) = 0 → nx t x = it p m x := by
  obtain ⟨L, hL, e⟩ := h.2 x hx
  refine ⟨L, hL, fun m hm => ?_⟩
  have e1 : nx t x = it p (k % (L : Int)).toNat x := by
    have hx' : In t x := ⟨hx.1, by rw [h.1]; exact hx.2⟩
    rw [nx_at0 hx'] at e
    exact Option.some.inj e
  rw [e1]
  refine it_congZ hL ?_
  have b0 := Int.emod_nonneg k (show (L : Int) ≠ 0 by have := hL.pos; omega)
  rw [Int.toNat_of_nonneg b0]
  have : k % (L : Int) - (m : Int) = -(((m : Int) - k) + (k - k % (L : Int))) := by omega
  rw [this]
  have d1 : (L : Int) ∣ ((m : Int) - k) := Int.dvd_of_emod_eq_zero hm
  have d2 : (L : Int) ∣ (k - k % (L : Int)) := Int.dvd_self_sub_emod
  exact Int.emod_eq_zero_of_dvd (Int.dvd_neg.mpr (Int.dvd_add d1 d2))
theorem pow_of {p t : List Int} {k : Int} (tp : IsT p) (hl : t.length = p.length) (h : ∀ x, In p x → ∀ L, Per p x L → ∃ m : Nat, ((m : Int) - k) % (L : Int) = 0 ∧ nx t x = it p m x) : PowIs p k t := by
  refine ⟨hl, fun x hx => ?_⟩
  obtain ⟨L, hL⟩ := per_ex tp hx
  obtain ⟨m, hm, e⟩ := h x hx L hL
  refine ⟨L, hL, ?_⟩
  rw [nx_at0 (p := t) ⟨hx.1, by rw [hl]; exact hx.2⟩, e]
  congr 1
  refine it_congZ hL ?_
  have b0 := Int.emod_nonneg k (show (L : Int) ≠ 0 by have := hL.pos; omega)
  rw [Int.toNat_of_nonneg b0]
  have : (m : Int) - k % (L : Int) = ((m : Int) - k) + (k - k % (L : Int)) := by omega
  rw [this]
  exact Int.emod_eq_zero_of_dvd (Int.dvd_add (Int.dvd_of_emod_eq_zero hm) Int.dvd_self_sub_emod)
theorem nat_like (k : Int) (L : Nat) (h : 0 < L) : (((k % (L : Int)).toNat : Int) - k) % (L : Int) = 0 := by
  have b0 := Int.emod_nonneg k (show (L : Int) ≠ 0 by omega)
  rw [Int.toNat_of_nonneg b0]
  have : k % (L : Int) - k = -(k - k % (L : Int)) := by omega
  rw [this]
  exact Int.emod_eq_zero_of_dvd (Int.dvd_neg.mpr Int.dvd_self_sub_emod)
theorem pow_isT {p t : List Int} {k : Int} (tp : IsT p) (h : PowIs p k t) : IsT t := by
  have tx : ∀ x, In p x → ∃ L, Per p x L ∧ nx t x = it p (k % (L : Int)).toNat x := fun x hx => by
    obtain ⟨L, hL, e⟩ := pow_nx h hx
    exact ⟨L, hL, e _ (nat_like k L hL.pos)⟩
  refine isT_of_nx (fun x x0 x1 => ?_) (fun x y x0 x1 y0 y1 e => ?_)
  · rw [h.1] at x1 ⊢
    obtain ⟨L, hL, e⟩ := tx x ⟨x0, x1⟩
    rw [e]
    exact it_in tp ⟨x0, x1⟩ _
  · rw [h.1] at x1 y1
    obtain ⟨L, hL, e1⟩ := tx x ⟨x0, x1⟩
    obtain ⟨M, hM, e2⟩ := tx y ⟨y0, y1⟩
    rw [e1, e2] at e
    have pL := hL.shift tp ⟨x0, x1⟩ (k % (L : Int)).toNat
    have pM := hM.shift tp ⟨y0, y1⟩ (k % (M : Int)).toNat
    rw [e] at pL
    have := pL.uniq pM
    subst this
    exact it_inj tp ⟨x0, x1⟩ ⟨y0, y1⟩ _ e
theorem pow_comp {p s t : List Int} {a b : Int} (tp : IsT p) (hs : PowIs p a s) (ht : PowIs p b t) : PowIs p (a + b) (comp s t) := by
  refine pow_of tp (by rw [comp_length, ht.1]) fun x hx L hL => ?_
  have hpos := hL.pos
  obtain ⟨L1, p1, e1⟩ := pow_nx ht hx
  have := p1.uniq hL
  subst this
  have e1 := e1 _ (nat_like b L1 hpos)
  have hy := it_in tp hx (b % (L1 : Int)).toNat
  obtain ⟨L2, p2, e2⟩ := pow_nx hs hy
  have := p2.uniq (hL.shift tp hx _)
  subst this
  have e2 := e2 _ (nat_like a L2 hpos)
  refine ⟨(a % (L2 : Int)).toNat + (b % (L2 : Int)).toNat, ?_, ?_⟩
  · have h1 := Int.dvd_of_emod_eq_zero (nat_like a L2 hpos)
    have h2 := Int.dvd_of_emod_eq_zero (nat_like b L2 hpos)
    refine Int.emod_eq_zero_of_dvd ?_
    have : (((a % (L2 : Int)).toNat + (b % (L2 : Int)).toNat : Nat) : Int) - (a + b) = (((a % (L2 : Int)).toNat : Int) - a) + (((b % (L2 : Int)).toNat : Int) - b) := by omega
    rw [this]
    exact Int.dvd_add h1 h2
  · rw [nx_comp ⟨hx.1, by rw [ht.1]; exact hx.2⟩, e1, e2, it_add]
theorem back_nx' {p s : List Int} (t : IsT p) (h : PowIs p (-1) s) {x : Int} (hx : In p x) : In p (nx s x) ∧ nx p (nx s x) = x := by
  obtain ⟨y, e, hy, en⟩ := back_nx t h hx
  rw [nx_at0 (p := s) ⟨hx.1, by rw [h.1]; exact hx.2⟩] at e
  have : nx s x = y := Option.some.inj e
  rw [this]
  exact ⟨hy, en⟩
end Mth
namespace L2
open PySem PySem.Spec PyProof.Rows
end L2
namespace L2
open PySem PySem.Spec PyProof.Rows
section
variable {X : Cx} {l m : Expr} {ta : TA} {p pos : Pos} {elts : List Expr} {x1 : Nat} {tpos : Pos}
end
section
variable {X : Cx} {e : Expr} {t : TA} {p pos : Pos}
theorem pe_minL (hc : X.calm = true) (hm : X.mg "min" = none) (ha : PA X [e] t) (hg : Gl X "min" := by rfl) (he : starEach [e] X.env = (false, eval e X.env) :: starEach [] X.env := by rfl) :
    PE X (.Call (.Name "min" p) [e] [] pos) (tCB (fun xs H Q => ∃ (p : Addr) (ns : List Int), xs = [.ref p] ∧ SqL X.K H p (ns.map V.int) ∧ ns ≠ [] ∧ ∀ m, m ∈ ns → (∀ x ∈ ns, m ≤ x) → Q (.int m) H) t) :=
  pe_callB (call_minL hc) hg hm boot_minB ha (by decide) (by decide) he rfl
end
end L2
namespace L2
open PySem PySem.Spec PyProof.Rows
end L2
namespace L2
open PySem PySem.Spec PyProof.Rows
section
variable {X : Cx} {o e : Expr} {to : TE} {t : TA} {apos pos p : Pos}
theorem pe_extend (ho : PE X o to) (ha : PA X [e] t)
    (hbase : attributeBase o "extend" X.env (eval o X.env) = eval o X.env := by rfl)
    (hfew : ((backTo pos (starEach [e] X.env)).all (fun x => !x.1) && (backToKw pos (keywordEach [] X.env)).all (fun x => x.1.isSome)
      && decide ([e].length + ([] : List Keyword).length + (if ([] : List Keyword).isEmpty then 0 else 1) < 30)) = true := by rfl)
    (hline : (apos.endLine == pos.line) = true := by rfl) (hs : starEach [e] X.env = (false, eval e X.env) :: starEach [] X.env := by rfl) (hplain : (backTo pos (starEach [] X.env)).any (·.1) = false := by rfl) :
    PE X (.Call (.Attribute o "extend" apos) [e] [] pos) (tBM X.K "list" rExtend to t) :=
  pe_bm PySem.F.plainAttrs_list PySem.F.slot_list_extend PySem.F.type_list_extend mt_extend ho ha hbase hfew hline hs hplain
end
theorem cut_from (xs : List V) (k : Nat) (h : k ≤ xs.length) : cutV xs (some (k : Int)) none = xs.drop k := by
  unfold cutV
  rw [HT.sIx_nat, HT.sIx_none, Nat.min_eq_left h, List.take_of_length_le (by rw [List.length_drop]; omega)]
theorem cut_to (xs : List V) (k : Nat) (h : k ≤ xs.length) : cutV xs none (some (k : Int)) = xs.take k := by
  unfold cutV
  rw [HT.sIx_nat, HT.sIx_none, Nat.min_eq_left h, List.drop_zero, Nat.sub_zero]
def rowOf (H : Hp) (e : Addr) : List Int := match H e with
  | some (.lst xs) => xs.map unInt
  | _ => []
theorem rowOf_eq {H : Hp} {e : Addr} {r : List Int} (h : H e = some (.lst (r.map V.int))) : rowOf H e = r := by
  unfold rowOf
  rw [h]
  show (r.map V.int).map unInt = r
  rw [List.map_map]
  conv => rhs; rw [← List.map_id r]
  rfl
theorem rows_rowOf {H : Hp} {as : List Addr} {rs : List (List Int)} (h : RowsH H as rs) : as.map (rowOf H) = rs := by
  refine List.ext_getElem? fun j => ?_
  rw [List.getElem?_map]
  by_cases hj : j < as.length
  · have e1 : as[j]? = some as[j] := List.getElem?_eq_getElem hj
    have e2 : rs[j]? = some (rs[j]'(by rw [← h.1]; exact hj)) := List.getElem?_eq_getElem _
    rw [e1, e2]
    show some (rowOf H as[j]) = _
    rw [rowOf_eq (h.2 j _ _ e1 e2)]
  · rw [List.getElem?_eq_none (by omega), List.getElem?_eq_none (by rw [← h.1]; omega)]
    rfl
def unRef : V → Addr
  | .ref a => a
  | _ => 0
theorem perm_refs {ys : List V} {xs : List Addr} (h : ys.Perm (xs.map V.ref)) : ∃ ps : List Addr, ys = ps.map V.ref ∧ ps.Perm xs := by
  refine ⟨ys.map unRef, ?_, ?_⟩
  · rw [List.map_map]
    conv => lhs; rw [← List.map_id ys]
    refine List.map_congr_left fun y hy => ?_
    obtain ⟨i, _, rfl⟩ := List.mem_map.mp (h.mem_iff.mp hy)
    rfl
  · have := h.map unRef
    rw [List.map_map] at this
    have e : xs.map (unRef ∘ V.ref) = xs := by
      conv => rhs; rw [← List.map_id xs]
      rfl
    rw [e] at this
    exact this
end L2
namespace Mth
theorem ringL_rot {p : List Int} {x : Int} {L k : Nat} (h : Per p x L) (hk : k ≤ L) : (ringL p x L).drop k ++ (ringL p x L).take k = ringL p (it p k x) L := by
  refine List.ext_getElem? fun j => ?_
  by_cases hj : j < L
  · rw [ringL_get hj, ← it_add]
    by_cases hj1 : j < L - k
    · rw [List.getElem?_append_left (by rw [List.length_drop, ringL_len]; omega), List.getElem?_drop, ringL_get (by omega), Nat.add_comm]
    · rw [List.getElem?_append_right (by rw [List.length_drop, ringL_len]; omega), List.length_drop, ringL_len, List.getElem?_take_of_lt (by omega), ringL_get (by omega)]
      have : it p (j - (L - k)) x = it p (j + k) x := by
        conv => rhs; rw [show j + k = (j - (L - k)) + L by omega, it_add, h.back]
      rw [this]
  · rw [List.getElem?_eq_none (by rw [List.length_append, List.length_drop, List.length_take, ringL_len]; omega), List.getElem?_eq_none (by rw [ringL_len]; omega)]
theorem rot_perm {α : Type} (r : List α) (k : Nat) : (r.drop k ++ r.take k).Perm r := by
  refine List.perm_append_comm.trans ?_
  rw [List.take_append_drop]
theorem up_flat {p : List Int} {rs : List (List Int)} (t : IsT p) (h : RingsUp p p.length rs) : rs.flatten.Perm (L2.upTo 0 p.length) := by
  have i1 : IsT rs.flatten := by
    have hin : ∀ x ∈ rs.flatten, In p x := fun x hx => by
      obtain ⟨r, hr, hxr⟩ := List.mem_flatten.mp hx
      obtain ⟨y, L, a, b, rfl, _⟩ := h.ring r hr
      exact ringL_in t a x hxr
    have l1 := nodup_len_in h.nd hin
    have l2 : p.length ≤ rs.flatten.length := by
      have := nodup_len_in (p := rs.flatten) (r := L2.upTo 0 p.length) (nodup_upTo _) fun x hx => by
        have hx' := mem_upTo.mp hx
        obtain ⟨r, hr, hxr⟩ := List.mem_flatten.mp (h.all x hx'.1 hx'.2)
        refine ⟨hx'.1, ?_⟩
        exact Classical.byContradiction fun hn => by
          have hle : (rs.flatten.length : Int) ≤ x := by omega
          have hlt := nodup_len_in h.nd hin
          have q : (L2.upTo 0 (x.toNat + 1)).length ≤ rs.flatten.length := by
            have sub : ∀ z ∈ L2.upTo 0 (x.toNat + 1), z ∈ rs.flatten := fun z hz => by
              have hz' := mem_upTo.mp hz
              exact h.all z hz'.1 (by have := hx'.2; omega)
            have : ∀ (l m : List Int), l.Nodup → (∀ z ∈ l, z ∈ m) → l.length ≤ m.length := by
              intro l
              induction l with
              | nil => intro m _ _; exact Nat.zero_le _
              | cons c l ih =>
                intro m nd hs
                obtain ⟨n1, n2⟩ := List.nodup_cons.mp nd
                obtain ⟨s, u, rfl⟩ := List.append_of_mem (hs c List.mem_cons_self)
                have := ih (s ++ u) n2 fun z hz => by
                  have hzm := hs z (List.mem_cons_of_mem _ hz)
                  rcases List.mem_append.mp hzm with g | g
                  · exact List.mem_append_left _ g
                  · rcases List.mem_cons.mp g with g | g
                    · subst g; exact absurd hz n1
                    · exact List.mem_append_right _ g
                rw [List.length_append] at this
                rw [List.length_append, List.length_cons, List.length_cons]
                omega
            exact this _ _ (nodup_upTo _) sub
          rw [length_upTo] at q
          have := hx'.1
          omega
      rw [length_upTo] at this
      exact this
    exact ⟨h.nd, fun x hx => (hin x hx).1, fun x hx => by have := (hin x hx).2; omega⟩
  have hl : rs.flatten.length = p.length := by
    have l1 := nodup_len_in h.nd fun x hx => by
      obtain ⟨r, hr, hxr⟩ := List.mem_flatten.mp hx
      obtain ⟨y, L, a, b, rfl, _⟩ := h.ring r hr
      exact ringL_in t a x hxr
    have l2 : p.length ≤ rs.flatten.length := by
      have := nodup_len_in (p := rs.flatten) (r := L2.upTo 0 p.length) (nodup_upTo _) fun x hx => by
        have hx' := mem_upTo.mp hx
        have hm := h.all x hx'.1 hx'.2
        exact ⟨hx'.1, i1.hi x hm⟩
      rw [length_upTo] at this
      exact this
    omega
  have := i1.perm
  rw [hl] at this
  exact this
end Mth
namespace L2
open PySem PySem.Spec PyProof.Rows
theorem boot_sortedB : bootBuiltins "sorted" = some (.builtin "sorted") := by decide +kernel
section
variable {X : Cx}
theorem laid_sorted {pins : List (Addr × Obj)} {σ : St} {H : Hp} {s : Shared} (I : Inv X pins σ H s) {vs : List Value} {out : Array Value} {ms : List Int} (h : IntsAre out.toList ms) (hl : ms.length ≤ sizeLine) :
    Inv X pins σ (upd H (s.heap.objs.size + 1) (.lst (ms.map V.int))) { s with heap := sortedAll s.heap vs out, toks := s.toks } := by
  obtain ⟨e, he⟩ := sortedAll_at s.heap vs out
  refine I.laid (t' := s.toks) (fun _ _ q => sortedAll_old q) (Nat.le_succ _) (show ObjOk X.prog X.w _ _ _ (.lst (ms.map V.int)) from ⟨by rw [List.length_map]; exact hl, out.toList, e, vals_ints h, he⟩)
theorem call_sorted : CallR X (.builtin "sorted") (fun xs H Q => ∃ (p : Addr) (ns : List Int), xs = [.ref p] ∧ SqL X.K H p (ns.map V.int) ∧ ns.length < 64 ∧ ∀ (ms : List Int) l, ms.Perm ns → ms.Pairwise (· ≤ ·) → H l = none → Q (.ref l) (upd H l (.lst (ms.map V.int)))) := by
  intro pins s σ H xs us Q I r h
  obtain ⟨p, ns, rfl, hp, h64, q⟩ := h
  obtain ⟨u, rfl, rx⟩ := vals1 r
  cases rx
  obtain ⟨its, rv, pl, _⟩ := I.list hp
  have ia := intsAre_of rv
  have il := ia.length
  refine sorted_ints pl.isList ia (by omega) fun out ms a1 a2 a3 => ?_
  have hl : ms.length ≤ sizeLine := by rw [a2.length_eq]; exact Nat.le_of_lt (small1000 (by omega))
  exact ⟨.ref (s.heap.objs.size + 1), _, laid_sorted I a1 hl, rfl, q ms _ a2 a3 (I.hok.fresh (Nat.le_succ _))⟩
variable {e : Expr} {t : TA} {p pos kpos : Pos}
theorem pe_sortedRev {j : Nat} {kp : Pos} (hm : X.mg "sorted" = none) (ha : PA X [e] t) (hg : Gl X "sorted" := by rfl)
    (he : backTo pos (starEach [e] X.env) = (false, eval e X.env) :: backTo pos (starEach [] X.env) := by rfl) (hplain : (backTo pos (starEach [e] X.env)).any (·.1) = false := by rfl) :
    PE X (.Call (.Name "sorted" p) [e] [⟨some "reverse", .Constant (.bool true) j kp, kpos⟩] pos) (tCB (fun xs H Q => ∃ (p : Addr) (ns : List Int), xs = [.ref p] ∧ SqL X.K H p (ns.map V.int) ∧ ns.length < 64 ∧ ∀ (ms : List Int) l, ms.Perm ns → ms.Pairwise (· ≥ ·) → H l = none → Q (.ref l) (upd H l (.lst (ms.map V.int)))) t) := by
  intro pins s σ H Q I h
  refine wpAny_Call_Name_kw (ld_blt I hg hm boot_sortedB ?_ (by decide) (by decide))
  refine callWith_kw (thn (ha pos pins s σ H _ I h) fun us s1 ⟨vs, H1, I1, r1, q1⟩ => ?_) he hplain
  obtain ⟨a, ns, rfl, hp, h64, q⟩ := q1
  obtain ⟨u, rfl, rx⟩ := vals1 r1
  cases rx
  have hk : PK X [⟨some "reverse", .Constant (.bool true) j kp, kpos⟩] (tCons (tC (.bl true)) tNil) := pk_cons pe_bl pk_nil
  refine thn (hk pos pins s1 σ H1 (fun zs H2 => zs = [.bl true] ∧ H2 = H1) I1 ⟨rfl, rfl⟩) fun ws s2 ⟨zs, H2, I2, rz, ez, eH⟩ => ?_
  subst ez eH
  obtain ⟨u2, rfl, rx2⟩ := vals1 rz
  cases (show u2 = Value.bool true from rx2)
  obtain ⟨its, rv, pl, _⟩ := I2.list hp
  have ia := intsAre_of rv
  have il := ia.length
  refine sorted_ints_rev (b := true) pl.isList ia (by omega) fun out ms a1 a2 a3 => ?_
  have hl : ms.length ≤ sizeLine := by rw [a2.length_eq]; exact Nat.le_of_lt (small1000 (by omega))
  exact ⟨.ref (s2.heap.objs.size + 1), _, laid_sorted I2 a1 hl, rfl, q ms _ a2 a3 (I2.hok.fresh (Nat.le_succ _))⟩
def tRev (K : PySem.W.Frag) (te : TE) (ts : TO) : TE := fun σ H Q => te σ H fun x H1 => ts σ H1 fun o H2 => o = some (-1) ∧ ∃ a xs, x = .ref a ∧ SqL K H2 a xs ∧ ∀ p, H2 p = none → Q (.ref p) (upd H2 p (.lst xs.reverse))
theorem pe_rev {st : Expr} {te : TE} {ts : TO} {p2 : Pos} (he : PE X e te) (hst : PO X (some st) ts) : PE X (.Subscript e (.Slice none none (some st) p2) pos) (tRev X.K te ts) := by
  intro pins s σ H Q I h
  refine Subscript_ (thn (he pins s σ H _ I h) fun v s1 ⟨x, H1, I1, r1, q1⟩ => ?_)
  refine wpAny_Slice ?_
  rw [evalPart_none]
  refine wpAny_pure (wpAny_pure ?_)
  refine thn (hst pins s1 σ H1 _ I1 q1) fun vk s3 ⟨k, H3, I3, pk, ek, a, xs, ex, hx, q⟩ => ?_
  subst ek ex
  cases r1
  have I4 : Inv X pins σ H3 { s3 with heap := s3.heap.push { cls := .type "slice", data := .fields #[.none, .none, vk] } } := I3.kept (t' := s3.toks) fun b ob q => Heap.get?_push_of_some _ q
  obtain ⟨its, r, ht, hz⟩ := I4.list hx
  have hlen := r.length
  show wpAny (model X.prog X.w) X.A (subscriptTail e (.Slice none none (some st) p2) (.ref a) (.ref s3.heap.objs.size)) (EP X pins σ Q) X.xe { s3 with heap := s3.heap.push { cls := .type "slice", data := .fields #[.none, .none, vk] } }
  refine tail_any (ops := [.ref a, .ref s3.heap.objs.size]) (T := "list") ht.isList.typeIs slot_list_getitem.lookup ?_ rfl
  refine wpAny_getItem_list_slice ht.isList (Heap.IsSliceOf.new ..) .none .none pk (by decide) ?_ (by rw [List.size_toArray] <;> omega)
  rw [PySem.W.krv_pick]
  have I5 := I4.laid (t' := s3.toks) (o := .lst xs.reverse) (h' := (s3.heap.push { cls := .type "slice", data := .fields #[.none, .none, vk] }).push { cls := .type "list", data := .seq its.reverse.toArray }) (a := (s3.heap.push { cls := .type "slice", data := .fields #[.none, .none, vk] }).objs.size)
    (fun b ob q => Heap.get?_push_of_some _ q) (Nat.le_refl _) ⟨by rw [List.length_reverse]; exact hz, its.reverse, 0, r.reverse, Heap.get?_push_size _ rfl⟩
  exact ⟨.ref _, _, I5, rfl, q _ (I4.hok.fresh (Nat.le_refl _))⟩
end
end L2
namespace Mth
theorem sorted_same : ∀ {a b : List Int}, a.Perm b → a.Pairwise (· ≥ ·) → b.Pairwise (· ≥ ·) → a = b
  | [], b, h, _, _ => by rw [List.nil_perm.mp h]
  | x :: a, [], h, _, _ => by exact absurd h.length_eq (by simp)
  | x :: a, y :: b, h, ha, hb => by
    obtain ⟨a1, a2⟩ := List.pairwise_cons.mp ha
    obtain ⟨b1, b2⟩ := List.pairwise_cons.mp hb
    have hxy : x = y := by
      have h1 : x ∈ y :: b := h.mem_iff.mp List.mem_cons_self
      have h2 : y ∈ x :: a := h.mem_iff.mpr List.mem_cons_self
      have l1 : y ≥ x := by
        rcases List.mem_cons.mp h1 with e | e
        · exact Int.le_of_eq e
        · exact b1 x e
      have l2 : x ≥ y := by
        rcases List.mem_cons.mp h2 with e | e
        · exact Int.le_of_eq e
        · exact a1 y e
      omega
    subst hxy
    rw [sorted_same ((List.perm_cons x).mp h) a2 b2]
theorem reverse_falling {a : List Int} (h : a.Pairwise (· ≤ ·)) : a.reverse.Pairwise (· ≥ ·) := List.pairwise_reverse.mpr h
structure IsLcm (ls : List Nat) (h : Nat) : Prop where
  pos : 0 < h
  up : ∀ l ∈ ls, l ∣ h
  least : ∀ m, (∀ l ∈ ls, l ∣ m) → h ∣ m
theorem IsLcm.uniq {ls : List Nat} {a b : Nat} (x : IsLcm ls a) (y : IsLcm ls b) : a = b := Nat.dvd_antisymm (x.least b y.up) (y.least a x.up)
theorem IsLcm.perm {ls ms : List Nat} {a : Nat} (x : IsLcm ls a) (h : ms.Perm ls) : IsLcm ms a := ⟨x.pos, fun l hl => x.up l (h.mem_iff.mp hl), fun m hm => x.least m fun l hl => hm l (h.mem_iff.mpr hl)⟩
theorem IsLcm.nil : IsLcm [] 1 := ⟨by decide, fun l hl => by simp at hl, fun m _ => Nat.one_dvd m⟩
theorem IsLcm.snoc {ls : List Nat} {h l : Nat} (x : IsLcm ls h) (hl : 0 < l) : IsLcm (ls ++ [l]) (Nat.lcm h l) := by
  refine ⟨Nat.lcm_pos x.pos hl, fun m hm => ?_, fun m hm => ?_⟩
  · rcases List.mem_append.mp hm with z | z
    · exact Nat.dvd_trans (x.up m z) (Nat.dvd_lcm_left h l)
    · have : m = l := by simpa using z
      rw [this]; exact Nat.dvd_lcm_right h l
  · exact Nat.lcm_dvd (x.least m fun k hk => hm k (List.mem_append_left _ hk)) (hm l (List.mem_append_right _ (by simp)))
theorem lcm_div (a b : Nat) : a / Nat.gcd a b * b = Nat.lcm a b := by
  unfold Nat.lcm
  rw [Nat.div_mul_right_comm (Nat.gcd_dvd_left a b)]
end Mth
namespace Mth
end Mth
namespace L2
open PySem PySem.Spec PyProof.Rows
end L2
namespace L2
open PySem PySem.Spec PyProof.Rows
end L2
namespace Mth
end Mth
namespace L2
open PySem PySem.Spec PyProof.Rows
section
variable {X : Cx}
end
end L2
namespace Mth
def cntL (rs : List (List Int)) (l : Nat) : Nat := rs.countP fun r => decide (r.length = l)
theorem count_flat {g : Int → Nat} {l : Nat} : ∀ {rs : List (List Int)}, (∀ r ∈ rs, ∀ x ∈ r, g x = r.length) → (rs.flatten.countP fun x => decide (g x = l)) = l * cntL rs l
  | [], _ => by simp [cntL]
  | r :: rs, h => by
    have ih := count_flat (l := l) (rs := rs) fun q hq => h q (List.mem_cons_of_mem _ hq)
    rw [List.flatten_cons, List.countP_append, ih]
    unfold cntL
    rw [List.countP_cons]
    have hr := h r List.mem_cons_self
    by_cases e : r.length = l
    · have : (r.countP fun x => decide (g x = l)) = r.length := List.countP_eq_length.mpr fun x hx => by rw [hr x hx]; exact decide_eq_true e
      rw [this, e]
      simp only [decide_true, if_true]
      rw [Nat.mul_add, Nat.mul_one, Nat.add_comm]
    · have : (r.countP fun x => decide (g x = l)) = 0 := List.countP_eq_zero.mpr fun x hx => by rw [hr x hx]; simpa using e
      rw [this]
      simp [e]
theorem per_len {p : List Int} (t : IsT p) {rs : List (List Int)} (up : RingsUp p p.length rs) : ∀ r ∈ rs, ∀ x ∈ r, perOf p x = r.length := by
  intro r hr x hx
  obtain ⟨y, L, hy, pr, er, _⟩ := up.ring r hr
  subst er
  obtain ⟨j, hj, rfl⟩ := mem_ringL.mp hx
  rw [ringL_len]
  exact perOf_eq (pr.shift t hy j)
theorem cnt_pos {rs : List (List Int)} {l : Nat} (h : cntL rs l ≠ 0) : ∃ r ∈ rs, r.length = l := by
  unfold cntL at h
  obtain ⟨r, hr, e⟩ := List.countP_pos_iff.mp (Nat.pos_of_ne_zero h)
  exact ⟨r, hr, of_decide_eq_true e⟩
end Mth
namespace Mth
end Mth
namespace Mth
end Mth
namespace L2
open PySem PySem.Spec PyProof.Rows
section
variable {prog : Program} {w : World} {A : Around} {E : Value → Shared → Prop} {s : Shared} {κ : Type} [DecidableEq κ] {knd : KeyKind prog w κ}
end
section
variable {X : Cx}
end
end L2
namespace L2
open PySem PySem.Spec PyProof.Rows
section
variable {X : Cx}
end
end L2
namespace Mth
theorem rings_to {p : List Int} (t : IsT p) : ∀ i, i ≤ p.length → RingsUp p i (ringsF p i)
  | 0, _ => rings_none p
  | i + 1, h => by
    have ih := rings_to t i (by omega)
    show RingsUp p (i + 1) (if (i : Int) ∈ (ringsF p i).flatten then ringsF p i else ringsF p i ++ [ringL p i (perOf p i)])
    have hx : In p (i : Int) := ⟨by omega, by omega⟩
    by_cases hi : (i : Int) ∈ (ringsF p i).flatten
    · rw [if_pos hi]; exact rings_skip ih hi
    · rw [if_neg hi]
      obtain ⟨L, hL⟩ := per_ex t hx
      rw [perOf_eq hL]
      exact rings_step t ih hx hL hi
theorem rings_up {p : List Int} (t : IsT p) : RingsUp p p.length (ringsF p p.length) := rings_to t _ (Nat.le_refl _)
theorem it_pow {p t : List Int} {k : Int} (tp : IsT p) (h : PowIs p k t) {x : Int} (hx : In p x) {L : Nat} (hL : Per p x L) {m : Nat} (hm : ((m : Int) - k) % (L : Int) = 0) : ∀ i, it t i x = it p (m * i) x
  | 0 => by rw [Nat.mul_zero]; rfl
  | i + 1 => by
    show nx t (it t i x) = _
    rw [it_pow tp h hx hL hm i]
    obtain ⟨M, hM, e⟩ := pow_nx h (it_in tp hx (m * i))
    have := (hL.shift tp hx (m * i)).uniq hM
    subst this
    rw [e m hm, ← it_add, Nat.mul_succ, Nat.add_comm]
theorem per_pow {p t : List Int} {k : Int} (tp : IsT p) (h : PowIs p k t) {x : Int} (hx : In p x) {L : Nat} (hL : Per p x L) {m : Nat} (hm : ((m : Int) - k) % (L : Int) = 0) : Per t x (L / Nat.gcd L m) := by
  have lp := hL.pos
  have gp : 0 < Nat.gcd L m := Nat.gcd_pos_of_pos_left _ lp
  obtain ⟨a, ha⟩ := Nat.gcd_dvd_left L m
  obtain ⟨b, hb⟩ := Nat.gcd_dvd_right L m
  have cp : Nat.Coprime (L / Nat.gcd L m) (m / Nat.gcd L m) := Nat.coprime_div_gcd_div_gcd gp
  generalize Nat.gcd L m = g at *
  have e1 : L / g = a := by rw [ha, Nat.mul_div_cancel_left _ gp]
  have e2 : m / g = b := by rw [hb, Nat.mul_div_cancel_left _ gp]
  rw [e1, e2] at cp
  rw [e1]
  refine ⟨?_, ?_, fun i i0 i1 e => ?_⟩
  · rcases Nat.eq_zero_or_pos a with z | z
    · rw [z] at ha; omega
    · exact z
  · rw [it_pow tp h hx hL hm, hb, show g * b * a = L * b by rw [ha]; ac_rfl]
    exact it_mul hL.back b
  · rw [it_pow tp h hx hL hm] at e
    have d := per_dvd hL e
    rw [ha, hb, Nat.mul_assoc] at d
    have d2 : a ∣ b * i := Nat.dvd_of_mul_dvd_mul_left gp d
    have d3 : a ∣ i := cp.dvd_of_dvd_mul_left d2
    exact absurd (Nat.le_of_dvd i0 d3) (by omega)
theorem per_back {p t : List Int} (tp : IsT p) (h : PowIs p (-1) t) {x : Int} (hx : In p x) {L : Nat} (hL : Per p x L) : Per t x L := by
  have lp := hL.pos
  have := per_pow tp h hx hL (m := L - 1) (by
    have : (((L - 1 : Nat) : Int) - -1) = (L : Int) := by omega
    rw [this, Int.emod_self])
  have g1 : Nat.gcd L (L - 1) = 1 := by
    have h1 := Nat.gcd_dvd_left L (L - 1)
    have h2 := Nat.gcd_dvd_right L (L - 1)
    have h3 := Nat.dvd_sub h1 h2
    rw [show L - (L - 1) = 1 by omega] at h3
    exact Nat.dvd_one.mp h3
  rw [g1, Nat.div_one] at this
  exact this
theorem count_upTo {p : List Int} (t : IsT p) (l : Nat) : ((L2.upTo 0 p.length).countP fun x => decide (perOf p x = l)) = l * cntL (ringsF p p.length) l := by
  rw [← count_flat (per_len t (rings_up t)), (up_flat t (rings_up t)).countP_eq]
theorem cnt_zero {p : List Int} (t : IsT p) : cntL (ringsF p p.length) 0 = 0 := by
  by_cases z : cntL (ringsF p p.length) 0 = 0
  · exact z
  · obtain ⟨r, hr, e⟩ := cnt_pos z
    obtain ⟨y, L, hy, pr, er, _⟩ := (rings_up t).ring r hr
    rw [er, ringL_len] at e
    have := pr.pos
    omega
theorem cnt_same {p q : List Int} (tp : IsT p) (tq : IsT q) (h : ∀ l, ((L2.upTo 0 q.length).countP fun x => decide (perOf q x = l)) = ((L2.upTo 0 p.length).countP fun x => decide (perOf p x = l))) (l : Nat) : cntL (ringsF q q.length) l = cntL (ringsF p p.length) l := by
  rcases Nat.eq_zero_or_pos l with z | l0
  · rw [z, cnt_zero tp, cnt_zero tq]
  have := h l
  rw [count_upTo tp, count_upTo tq] at this
  exact Nat.eq_of_mul_eq_mul_left l0 this
theorem cnt_back {p t : List Int} (tp : IsT p) (h : PowIs p (-1) t) (l : Nat) : cntL (ringsF t t.length) l = cntL (ringsF p p.length) l := by
  refine cnt_same tp (pow_isT tp h) (fun l => ?_) l
  rw [h.1]
  refine List.countP_congr fun x hx => ?_
  have hin : In p x := mem_upTo.mp hx
  obtain ⟨L, hL⟩ := per_ex tp hin
  rw [perOf_eq hL, perOf_eq (per_back tp h hin hL)]
theorem it_conj {p s b : List Int} (tp : IsT p) (ts : IsT s) (hl : s.length = p.length) (hb : PowIs s (-1) b) {x : Int} (hx : In p x) : ∀ i, it (comp (comp s p) b) i (nx s x) = nx s (it p i x)
  | 0 => rfl
  | i + 1 => by
    show nx _ (it _ i _) = nx s (nx p (it p i x))
    rw [it_conj tp ts hl hb hx i]
    have hi := it_in tp hx i
    have hsi : In s (it p i x) := by unfold In at *; rw [hl]; exact hi
    have h1 : In b (nx s (it p i x)) := by
      have := nx_in ts hsi
      unfold In at *
      rw [hb.1]; exact this
    rw [nx_comp h1]
    have h2 := back_nx' ts hb (nx_in ts hsi)
    have h3 : nx b (nx s (it p i x)) = it p i x := nx_inj ts h2.1 hsi h2.2
    rw [h3, nx_comp hi]
theorem per_conj {p s b : List Int} (tp : IsT p) (ts : IsT s) (hl : s.length = p.length) (hb : PowIs s (-1) b) {x : Int} (hx : In p x) {L : Nat} (hL : Per p x L) : Per (comp (comp s p) b) (nx s x) L := by
  refine ⟨hL.pos, by rw [it_conj tp ts hl hb hx, hL.back], fun i i0 i1 e => ?_⟩
  rw [it_conj tp ts hl hb hx] at e
  have tr : ∀ y, In p y → In s y := fun y hy => by unfold In at *; rw [hl]; exact hy
  exact hL.least i i0 i1 (nx_inj ts (tr _ (it_in tp hx i)) (tr _ hx) e)
theorem isT_conj {p s b : List Int} (tp : IsT p) (ts : IsT s) (hl : s.length = p.length) (hb : PowIs s (-1) b) : IsT (comp (comp s p) b) := by
  have tb := pow_isT ts hb
  exact isT_comp (isT_comp ts tp hl) tb (by rw [comp_length, hb.1, hl])
theorem cnt_conj {p s b : List Int} (tp : IsT p) (ts : IsT s) (hl : s.length = p.length) (hb : PowIs s (-1) b) (l : Nat) : cntL (ringsF (comp (comp s p) b) (comp (comp s p) b).length) l = cntL (ringsF p p.length) l := by
  refine cnt_same tp (isT_conj tp ts hl hb) (fun l => ?_) l
  have e1 : (comp (comp s p) b).length = s.length := by rw [comp_length, hb.1]
  rw [e1, ← ts.perm.countP_eq, ← hl]
  have e2 : s = (L2.upTo 0 s.length).map (nx s) := by
    refine List.ext_getElem? fun j => ?_
    unfold L2.upTo
    rw [List.map_map, List.getElem?_map]
    by_cases hj : j < s.length
    · rw [List.getElem?_range hj, List.getElem?_eq_getElem hj]
      show some _ = some (nx s ((0 : Int) + (j : Int)))
      unfold nx
      rw [show ((0 : Int) + (j : Int)).toNat = j by omega, getD_eq hj]
    · rw [List.getElem?_eq_none (by omega), List.getElem?_eq_none (by rw [List.length_range]; omega)]; rfl
  have e3 : ∀ f : Int → Bool, s.countP f = (L2.upTo 0 s.length).countP (f ∘ nx s) := fun f => by rw [← List.countP_map, ← e2]
  rw [e3]
  refine List.countP_congr fun x hx => ?_
  have hin : In p x := by have := mem_upTo.mp hx; unfold In; rw [← hl]; exact this
  obtain ⟨L, hL⟩ := per_ex tp hin
  show decide (perOf (comp (comp s p) b) (nx s x) = l) = true ↔ _
  rw [perOf_eq hL, perOf_eq (per_conj tp ts hl hb hin hL)]
end Mth
namespace Mth
theorem ring_of {p : List Int} (t : IsT p) {x : Int} (hx : In p x) : ∃ r ∈ ringsF p p.length, x ∈ r := by
  have := (rings_up t).all x hx.1 hx.2
  obtain ⟨r, hr, h⟩ := List.mem_flatten.mp this
  exact ⟨r, hr, h⟩
end Mth
namespace Mth
theorem maxmin {n c : Int} (hn : 1 ≤ n) (hc : 0 ≤ c) : ∃ mx, (if (if n < c then n else c) > 1 then (if n < c then n else c) else (1 : Int)) = mx ∧ 1 ≤ mx ∧ mx ≤ n := by
  refine ⟨_, rfl, ?_⟩
  split <;> split at * <;> omega
theorem maxmin' {n c : Int} (hn : 1 ≤ n) (hc : 0 ≤ c) : ∃ mx, (if (if c < n then c else n) > 1 then (if c < n then c else n) else (1 : Int)) = mx ∧ 1 ≤ mx ∧ mx ≤ n := by
  refine ⟨_, rfl, ?_⟩
  split <;> split at * <;> omega
structure HomeIs (p : List Int) (h : Nat) : Prop where
  pos : 0 < h
  up : ∀ x, In p x → perOf p x ∣ h
  least : ∀ g, (∀ x, In p x → perOf p x ∣ g) → h ∣ g
theorem homeIs_of {p : List Int} (t : IsT p) {ls : List Nat} {h : Nat} (e : ls = (ringsF p p.length).map List.length) (x : IsLcm ls h) : HomeIs p h := by
  subst e
  refine ⟨x.pos, fun y hy => ?_, fun g hg => x.least g fun l hl => ?_⟩
  · obtain ⟨r, hr, hxr⟩ := ring_of t hy
    rw [per_len t (rings_up t) r hr y hxr]
    exact x.up _ (List.mem_map.mpr ⟨r, hr, rfl⟩)
  · obtain ⟨r, hr, rfl⟩ := List.mem_map.mp hl
    obtain ⟨y, L, hy, pr, er, _⟩ := (rings_up t).ring r hr
    have hm : y ∈ r := by rw [er]; exact mem_ringL.mpr ⟨0, pr.pos, rfl⟩
    rw [← per_len t (rings_up t) r hr y hm]
    exact hg y hy
end Mth
namespace L2
open PySem PySem.Spec PyProof.Rows
end L2
namespace Mth
end Mth
namespace L2
open PySem PySem.Spec PyProof.Rows
section
variable {X : Cx} {st : Stmt} {rest : List Stmt} {t u : TS}
end
end L2
namespace L2
open PySem PySem.Spec PyProof.Rows
section
variable {P : Program} {w : World} {K : PySem.W.Frag} {mg : Str → Option Value} {base : Heap} {N : List Str} {qual : Str} {scope : Scope} {f : Addr} {cd : Value} {A : Around} {outer : List Env} {s₀ : Shared} {H₀ : Hp} {E E' : XK}
end
section
variable {X : Cx}
end
section
variable {P : Program} {w : World} {K : PySem.W.Frag} {mg : Str → Option Value} {base : Heap}
end
section
variable {X : Cx} {x : Str} {k : Nat} {ps : List Str} {sp : Sp} {e : Expr} {es : List Expr} {t : TA} {p pos : Pos} {E : XK}
end
end L2
namespace L2
open PySem PySem.Spec PyProof.Rows
section
variable {X : Cx} {pins : List (Addr × Obj)} {σ : St} {H H' : Hp} {s s' : Shared}
end
section
variable {X : Cx} {x : Str} {k : Nat} {ps : List Str} {sp : Sp} {e : Expr} {es : List Expr} {t : TA} {p pos : Pos}
end
section
variable {X : Cx}
end
end L2
namespace L2
open PySem PySem.Spec PyProof.Rows PySem.W PySem.Builtin PySem.Builtin.ObjectAttr PySem.Builtin.Getset_descriptor
section
variable {prog : Program} {w : World} {A : Around} {E : Value → Shared → Prop} {s : Shared} {K : PySem.W.Frag} {a C : Addr}
end
section
variable {X : Cx}
end
end L2
namespace L2
open PySem PySem.Spec PyProof.Rows
section
variable {X : Cx}
end
end L2
namespace Mth
end Mth
namespace L2
open PySem PySem.Spec PyProof.Rows
section
variable {prog : Program} {w : World} {A : Around} {E : Value → Shared → Prop} {s : Shared}
end
section
variable {X : Cx} {pos : Pos}
end
end L2
namespace L2
open PySem PySem.Spec PyProof.Rows
section
variable {X : Cx} {p pos : Pos} {e : Expr} {t : TA}
end
end L2
namespace L2
open PySem PySem.Spec PyProof.Rows
section
variable {P : Program} {w : World} {K : PySem.W.Frag} {mg : Str → Option Value} {base : Heap} {CX : CXT} {k : Nat} {f : Addr} {fd : FuncData} {ps : List Str} {a b : Sp}
end
end L2
namespace L2
open PySem PySem.Spec PyProof.Rows
section
variable {X : Cx} {p pos : Pos} {e : Expr} {t : TA}
end
end L2
namespace L2
open PySem PySem.Spec PyProof.Rows
end L2
namespace L2
open PySem PySem.Spec PyProof.Rows
section
variable {X : Cx} {p pos apos : Pos} {e o : Expr} {es : List Expr} {t : TA} {to : TE}
end
end L2
namespace L2
open PySem PySem.Spec PyProof.Rows
section
variable {X : Cx}
end
end L2
namespace Mth
end Mth
namespace L2
open PySem PySem.Builtin PySem.Builtin.Str PySem.StrLaws
end L2
namespace HT
open PySem PySem.Spec PyProof.Rows
open PySem.AutoSeq1
open PySem.MeetsSeq PySem.MeetsSeq2 PySem.MeetsSeq3
theorem at_drop {xs : Array Value} {i : Nat} {x : Value} {r : List Value} (h : xs.toList.drop i = x :: r) : xs[((i : Nat) : Int).toNat]? = some x ∧ xs.toList.drop (i + 1) = r ∧ i < xs.size := by
  have hl : i < xs.size := by
    rcases Nat.lt_or_ge i xs.size with z | z
    · exact z
    · rw [List.drop_of_length_le (by simpa using z)] at h; cases h
  refine ⟨?_, ?_, hl⟩
  · rw [Int.toNat_natCast, ← Array.getElem?_toList]
    have := congrArg List.head? h
    rw [List.head?_drop] at this
    simpa using this
  · have := congrArg List.tail h
    rw [List.tail_drop] at this
    exact this
theorem at_end {xs : Array Value} {i : Nat} (h : xs.toList.drop i = []) : xs[((i : Nat) : Int).toNat]? = none ∧ xs.size ≤ i := by
  have hl : xs.size ≤ i := by
    have := congrArg List.length h
    rw [List.length_drop] at this
    simp at this; omega
  exact ⟨by rw [Int.toNat_natCast]; simp [hl], hl⟩
abbrev LObj (h : Heap) (a : Addr) (xs : Array Value) (n : Nat) : Prop := h.get? a = some { cls := .type "list", dict := none, data := .seq xs n, slots := #[] }
theorem lt_from (l b : Addr) (items items2 : Array Value) (n n2 : Nat) : ∀ (ns ms : List Int) (vs ws : List Value) (i : Nat), IntsAre vs ns → IntsAre ws ms → items.toList.drop i = vs → items2.toList.drop i = ws → i ≤ items.size → i ≤ items2.size →
    Meets (Builtin.«list.__eq__.loop» ⟨[.ref l, .ref b, rawInt i, rawInt 0], []⟩)
      (fun _ R s => (LObj s.heap l items n ∧ LObj s.heap b items2 n2) ∧ R (.ok (.ret (.bool (lexLt ns ms)))) s) := by
  intro ns
  induction ns with
  | nil =>
    intro ms vs ws i hv hw e1 e2 i1 i2 prog w A R s h
    obtain ⟨h0, g0, d0, k0, o0⟩ := s
    obtain ⟨⟨hx, hy⟩, h⟩ := h
    cases hv
    obtain ⟨g1, z1⟩ := at_end e1
    wp_walk using wpAny_loadPart' hx, wpAny_loadPart' hy
    rw [g1]
    cases hw with
    | nil =>
      obtain ⟨g2, z2⟩ := at_end e2
      wp_walk using wpAny_loadPart' hx, wpAny_loadPart' hy
      show R (.ok (.ret (.bool (decide (items.size < items2.size))))) _
      rw [decide_eq_false (by omega)]
      exact h
    | cons c u hw' =>
      obtain ⟨g2, _, z2⟩ := at_drop e2
      wp_walk using wpAny_loadPart' hx, wpAny_loadPart' hy
      show R (.ok (.ret (.bool (decide (items.size < items2.size))))) _
      rw [decide_eq_true (by omega)]
      exact h
  | cons a ns ih =>
    intro ms vs ws i hv hw e1 e2 i1 i2 prog w A R s h
    obtain ⟨h0, g0, d0, k0, o0⟩ := s
    obtain ⟨⟨hx, hy⟩, h⟩ := h
    cases hv with
    | cons _ t hv' =>
      obtain ⟨g1, d1, z1⟩ := at_drop e1
      wp_walk using wpAny_loadPart' hx, wpAny_loadPart' hy
      rw [g1]
      cases hw with
      | nil =>
        obtain ⟨g2, z2⟩ := at_end e2
        rw [g2]
        wp_walk using wpAny_loadPart' hx, wpAny_loadPart' hy
        show R (.ok (.ret (.bool (decide (items.size < items2.size))))) _
        rw [decide_eq_false (by omega)]
        exact h
      | cons c u hw' =>
        obtain ⟨g2, d2, z2⟩ := at_drop e2
        rw [g2]
        rw [lexLt_cons] at h
        obtain ⟨e, he, hiff⟩ := eqAt_int A.in1 ⟨h0, g0, d0, k0, o0⟩ a t c u
        refine wpAny_bind (he prog w _ _ ?_)
        cases e with
        | true =>
          rw [if_pos (hiff.mp rfl)] at h
          wp_walk
          rw [show ((i : Int) + 1) = ((i + 1 : Nat) : Int) from rfl]
          refine ⟨plainId_quiet plain_eq_loop _, codeAny_builtin entry_eq_loop ?_⟩
          (rw [Around.under_plainId plain_eq_loop _]; exact ih _ _ _ (i + 1) hv' hw' d1 d2 (by omega) (by omega) prog w A R _ ⟨⟨hx, hy⟩, h⟩)
        | false =>
          rw [if_neg (fun q => absurd (hiff.mpr q) Bool.false_ne_true)] at h
          have less := rcLt_int A.in1 ⟨h0, g0, d0, k0, o0⟩ a t c u prog w
          wp_walk using wpAny_loadPart' hx, wpAny_loadPart' hy
          rw [g1, g2]
          wp_walk using less
          exact h
theorem list_lt_ints (l b : Addr) (items items2 : Array Value) (n n2 : Nat) (ns ms : List Int) (hi : IntsAre items.toList ns) (hj : IntsAre items2.toList ms) :
    Meets (Builtin.«list.__lt__» ⟨[.ref l, .ref b], []⟩)
      (fun _ R s => (LObj s.heap l items n ∧ LObj s.heap b items2 n2) ∧ R (.ok (.ret (.bool (lexLt ns ms)))) s) := by
  intro prog w A R s h
  obtain ⟨h0, g0, d0, k0, o0⟩ := s
  obtain ⟨⟨hx, hy⟩, h⟩ := h
  have sub := AutoSeq1.sub_list_list
  wp_walk using wpAny_loadPart' hx, wpAny_loadPart' hy
  refine ⟨plainId_quiet plain_eq_loop _, codeAny_builtin entry_eq_loop ?_⟩
  (rw [Around.under_plainId plain_eq_loop _]; exact lt_from l b items items2 n n2 ns ms _ _ 0 hi hj rfl rfl (Nat.zero_le _) (Nat.zero_le _) prog w A R _ ⟨⟨hx, hy⟩, h⟩)
end HT
namespace L2
open PySem PyProof.Rows
section
variable {prog : Program} {w : World} {A : Around} {E : Value → Shared → Prop} {s : Shared}
end
end L2
namespace L2
open PySem PySem.Spec PyProof.Rows
section
variable {prog : Program} {w : World} {A : Around} {E : Value → Shared → Prop} {s : Shared}
def RowIs (h : Heap) (v : Value) (ns : List Int) : Prop := ∃ p xs n, v = .ref p ∧ HT.LObj h p xs n ∧ IntsAre xs.toList ns
theorem mapM_still {α β : Type} {f : α → Sem β} (g : α → β) : ∀ {vs : List α} {Q : List β → Shared → Prop}, (∀ v, v ∈ vs → ∀ R : β → Shared → Prop, R (g v) s → wpAny (model prog w) A (f v) R E s) → Q (vs.map g) s → wpAny (model prog w) A (vs.mapM f) Q E s
  | [], Q, _, q => by rw [List.mapM_nil]; exact wpAny_pure q
  | v :: vs, Q, k, q => by
    rw [List.mapM_cons]
    refine wpAny_bind (k v (List.mem_cons_self ..) _ ?_)
    refine wpAny_bind (mapM_still g (fun u hu => k u (List.mem_cons_of_mem _ hu)) ?_)
    exact wpAny_pure q
theorem mapM_arr {α β : Type} {f : α → Sem β} (g : α → β) {vs : List α} {Q : Array β → Shared → Prop} (k : ∀ v, v ∈ vs → ∀ R : β → Shared → Prop, R (g v) s → wpAny (model prog w) A (f v) R E s) (q : Q (vs.map g).toArray s) : wpAny (model prog w) A (vs.toArray.mapM f) Q E s := by
  rw [List.mapM_toArray, map_eq_pure_bind]
  exact wpAny_bind (mapM_still g k (wpAny_pure q))
theorem firstOf_eq (v : Value) : firstOfTuple' v = (do
    if (← typeOf v) != .type "tuple" then return none
    return (← Builtin.List.listItems v)[0]?) := rfl
theorem first_row {v : Value} {ns : List Int} (r : RowIs s.heap v ns) {Q : Option Value → Shared → Prop} (k : Q none s) : wpAny (model prog w) A (firstOfTuple' v) Q E s := by
  obtain ⟨p, xs, n, rfl, ox, ix⟩ := r
  rw [firstOf_eq]
  refine wpAny_bind (wpAny_typeOf (T := "list") ⟨_, ox, rfl⟩ ?_)
  rw [if_pos (by decide)]
  exact wpAny_pure k
theorem type_row {v : Value} {ns : List Int} (r : RowIs s.heap v ns) {Q : Value → Shared → Prop} (k : Q (.type "list") s) : wpAny (model prog w) A (typeOf v) Q E s := by
  obtain ⟨p, xs, n, rfl, ox, ix⟩ := r
  exact wpAny_typeOf (T := "list") ⟨_, ox, rfl⟩ k
theorem kind_rows {v₁ v₂ : Value} {vs : List Value} {Q : SortKind → Shared → Prop} (r : ∀ v, v ∈ v₁ :: v₂ :: vs → ∃ ns, RowIs s.heap v ns) (k : Q oneType' s) : wpAny (model prog w) A (keyKind' (v₁ :: v₂ :: vs).toArray) Q E s := by
  rw [keyKind'_eq]
  refine wpAny_bind (mapM_arr (fun _ => none) (fun v hv R q => by obtain ⟨ns, z⟩ := r v hv; exact first_row z q) ?_)
  rw [if_neg (by simp), if_neg (by simp)]
  rw [oneTypeOnly'_eq]
  refine wpAny_bind (wpAny_bind (mapM_arr (fun _ => Value.type "list") (fun v hv R q => by obtain ⟨ns, z⟩ := r v hv; exact type_row z q) ?_))
  have h0 : (List.map (fun _ => Value.type "list") (v₁ :: v₂ :: vs)).toArray[0]? = some (Value.type "list") := by simp
  rw [h0]
  dsimp only
  rw [if_pos (by
    simp only [List.all_toArray, List.all_map, List.all_eq_true]
    intro _ _
    rfl)]
  exact wpAny_pure (wpAny_pure k)
theorem pairs_snd (vs : List Value) : (pairsOf vs).map (·.2) = vs.toArray := by
  apply Array.toList_inj.mp
  rw [Array.toList_map, pairsOf_toList]
  exact List.map_snd_zip (Nat.le_refl _)
end
end L2
namespace L2
open PySem PySem.Spec PyProof.Rows
section
variable {X : Cx}
variable {e : Expr} {t : TA} {p pos : Pos}
end
end L2
namespace L2
open PySem PySem.Spec PyProof.Rows
section
variable {X : Cx}
end
end L2
namespace Mth
open L2 (upTo)
end Mth
namespace L2
open PySem PySem.Spec PyProof.Rows
end L2
namespace TS
open PySem PyProof.Rows
section
variable (rk : Keyed → Nat)
def R (xs : Array Keyed) (i : Nat) : Nat := match xs[i]? with
  | some p => rk p
  | none => 0
def Up (xs : Array Keyed) (lo hi : Nat) : Prop := ∀ i j, lo ≤ i → i ≤ j → j < hi → R rk xs i ≤ R rk xs j
def Down (xs : Array Keyed) (lo hi : Nat) : Prop := ∀ i j, lo ≤ i → i ≤ j → j < hi → R rk xs j ≤ R rk xs i
end
def Kept (xs ys : Array Keyed) (lo hi : Nat) : Prop := ∀ k, k < lo ∨ hi ≤ k → ys[k]? = xs[k]?
theorem Kept.refl (xs : Array Keyed) (lo hi : Nat) : Kept xs xs lo hi := fun _ _ => rfl
theorem Kept.trans {xs ys zs : Array Keyed} {lo hi : Nat} (h : Kept xs ys lo hi) (g : Kept ys zs lo hi) : Kept xs zs lo hi := fun k hk => (g k hk).trans (h k hk)
theorem Kept.wide {xs ys : Array Keyed} {lo hi lo' hi' : Nat} (h : Kept xs ys lo hi) (h1 : lo' ≤ lo) (h2 : hi ≤ hi') : Kept xs ys lo' hi' := fun k hk => h k (by omega)
section
variable {rk : Keyed → Nat}
theorem R_of {xs ys : Array Keyed} {i j : Nat} (h : xs[i]? = ys[j]?) : R rk xs i = R rk ys j := by unfold R; rw [h]
theorem Kept.R {xs ys : Array Keyed} {lo hi k : Nat} (h : Kept xs ys lo hi) (hk : k < lo ∨ hi ≤ k) : TS.R rk ys k = TS.R rk xs k := R_of (h k hk)
theorem Kept.up {xs ys : Array Keyed} {lo hi a b : Nat} (h : Kept xs ys lo hi) (u : Up rk xs a b) (hk : b ≤ lo ∨ hi ≤ a) : Up rk ys a b := fun i j h1 h2 h3 => by
  rw [h.R (by omega), h.R (by omega)]; exact u i j h1 h2 h3
theorem R_bubble {xs : Array Keyed} {src d : Nat} (hs : src < xs.size) (hd : d ≤ src) (k : Nat) :
    R rk (bubble xs src d) k = if k = src - d then R rk xs src else if src - d < k ∧ k ≤ src then R rk xs (k - 1) else R rk xs k := by
  have e := getElem?_bubble hs d hd k
  split
  · rename_i h; rw [if_pos h] at e; exact R_of e
  · rename_i h
    rw [if_neg h] at e
    split
    · rename_i h2; rw [if_pos h2] at e; exact R_of e
    · rename_i h2; rw [if_neg h2] at e; exact R_of e
theorem kept_bubble {xs : Array Keyed} {src d lo hi : Nat} (hs : src < xs.size) (hd : d ≤ src) (h1 : lo ≤ src - d) (h2 : src < hi) : Kept xs (bubble xs src d) lo hi := fun k hk => by
  rw [getElem?_bubble hs d hd k, if_neg (by omega), if_neg (by omega)]
theorem R_mirror {xs : Array Keyed} {i j : Nat} (hj : j ≤ xs.size) (k : Nat) : R rk (mirror xs i j ((j - i) / 2)) k = if i ≤ k ∧ k < j then R rk xs (i + j - 1 - k) else R rk xs k := by
  have e := getElem?_mirror_all (i := i) hj k
  split
  · rename_i h; rw [if_pos h] at e; exact R_of e
  · rename_i h; rw [if_neg h] at e; exact R_of e
theorem kept_mirror {xs : Array Keyed} {i j lo hi : Nat} (hj : j ≤ xs.size) (h1 : lo ≤ i) (h2 : j ≤ hi) : Kept xs (mirror xs i j ((j - i) / 2)) lo hi := fun k hk => by
  rw [getElem?_mirror_all hj k, if_neg (by omega)]
theorem R_alike {xs : Array Keyed} {i j : Nat} (hj : j ≤ xs.size) (h : ∀ k, i ≤ k → k < j → R rk xs k = R rk xs (j - 1)) (k : Nat) : R rk (mirror xs i j ((j - i) / 2)) k = R rk xs k := by
  rw [R_mirror hj]
  split
  · rw [h _ (by omega) (by omega), h k (by omega) (by omega)]
  · rfl
end
structure Bs (a0 : Array Keyed) (κ : SortKind) (st : SortSt) : Prop where
  perm : (arrOf st).Perm a0
  kind : kindOf st = κ
  ok : failedOf st = none
theorem Bs.size {a0 : Array Keyed} {κ : SortKind} {st : SortSt} (h : Bs a0 κ st) : (arrOf st).size = a0.size := h.perm.size_eq
theorem Bs.set {a0 : Array Keyed} {κ : SortKind} {st : SortSt} (h : Bs a0 κ st) {xs : Array Keyed} (hp : xs.Perm (arrOf st)) : Bs a0 κ (setArr st xs) := ⟨hp.trans h.perm, h.kind, h.ok⟩
theorem Bs.mem {a0 : Array Keyed} {κ : SortKind} {st : SortSt} (h : Bs a0 κ st) {i : Nat} (hi : i < a0.size) : ∃ p, (arrOf st)[i]? = some p ∧ p ∈ a0.toList := by
  have hi' : i < (arrOf st).size := by rw [h.size]; exact hi
  exact ⟨(arrOf st)[i], getElem?_pos _ i hi', (Array.perm_iff_toList_perm.mp h.perm).mem_iff.mp (by simp)⟩
section
variable {prog : Program} {w : World} {A : Around} {E : Value → Shared → Prop} {s : Shared}
def Cm (prog : Program) (w : World) (A : Around) (s : Shared) (κ : SortKind) (rk : Keyed → Nat) (a0 : Array Keyed) : Prop :=
  ∀ x ∈ a0.toList, ∀ y ∈ a0.toList, ∀ (Q : Bool → Shared → Prop) (E' : Value → Shared → Prop), Q (decide (rk x < rk y)) s → wpAny (model prog w) A (keyLt' κ x.1 y.1) Q E' s
variable {rk : Keyed → Nat} {a0 : Array Keyed} {κ : SortKind}
theorem lt_of {st : SortSt} {x y : Keyed} {Q : Option Bool → SortSt → Prop} (C : Cm prog w A s κ rk a0) (hk : kindOf st = κ) (hx : x ∈ a0.toList) (hy : y ∈ a0.toList) (h : Q (some (decide (rk x < rk y))) st) :
    wpS (model prog w) A E s (lt' x y) Q st := by
  rw [lt'_eq]
  refine wpS_bind (wpS_get ?_)
  rw [hk]
  exact wpS_bind (wpS_lift (wpAny_attempt (C x hx y hy _ _ ⟨rfl, wpS_pure h⟩)))
theorem ltAt_of {st : SortSt} {i j : Nat} {Q : Option Bool → SortSt → Prop} (C : Cm prog w A s κ rk a0) (B : Bs a0 κ st) (hi : i < a0.size) (hj : j < a0.size) (h : Q (some (decide (R rk (arrOf st) i < R rk (arrOf st) j))) st) :
    wpS (model prog w) A E s (ltAt' i j) Q st := by
  obtain ⟨x, ex, mx⟩ := B.mem hi
  obtain ⟨y, ey, my⟩ := B.mem hj
  rw [ltAt'_eq]
  refine wpS_bind (wpS_get ?_)
  show wpS _ _ _ _ (do let u ← elem' (arrOf st) i; let v ← elem' (arrOf st) j; lt' u v) Q st
  rw [elem'_eq, elem'_eq, ex, ey]
  refine wpS_bind (wpS_pure (wpS_bind (wpS_pure (lt_of C B.kind mx my ?_))))
  unfold R at h
  rw [ex, ey] at h
  exact h
theorem rev_of {st : SortSt} {i j : Nat} {Q : Unit → SortSt → Prop} (h : Q () (setArr st (mirror (arrOf st) i j ((j - i) / 2)))) : wpS (model prog w) A E s (reverseSlice' i j) Q st := by
  rw [reverseSlice'_eq]; exact wpS_modify h
theorem bin_of {st : SortSt} {lo n ok : Nat} {Q : Bool → SortSt → Prop} (C : Cm prog w A s κ rk a0) (hn : lo + n ≤ a0.size) (hok : ok ≤ n) (B : Bs a0 κ st) (hs : Up rk (arrOf st) lo (lo + ok))
    (h : ∀ st', Bs a0 κ st' → Up rk (arrOf st') lo (lo + n) → Kept (arrOf st) (arrOf st') lo (lo + n) → pendingOf st' = pendingOf st → Q true st') : wpS (model prog w) A E s (binarySort' lo n ok) Q st := by
  rw [binarySort'_eq]
  refine wpS_bind (wpS_mono (wpS_forRange (I := fun k c t => c = (none, ()) ∧ Bs a0 κ t ∧ Up rk (arrOf t) lo (lo + min k n) ∧ Kept (arrOf st) (arrOf t) lo (lo + n) ∧ pendingOf t = pendingOf st)
    (Q := fun c t => c = (none, ()) ∧ Bs a0 κ t ∧ Up rk (arrOf t) lo (lo + n) ∧ Kept (arrOf st) (arrOf t) lo (lo + n) ∧ pendingOf t = pendingOf st) ?step ?fin ?init) ?post)
  case post =>
    rintro c t ⟨rfl, B', u, k, p⟩
    exact wpS_pure (h t B' u k p)
  case init =>
    refine ⟨rfl, B, fun i j h1 h2 h3 => ?_, Kept.refl _ _ _, rfl⟩
    by_cases z : ok = 0
    · have : i = j := by omega
      rw [this]; exact Nat.le_refl _
    · exact hs i j h1 h2 (by omega)
  case fin =>
    rintro c t ⟨hc, B', u, k, p⟩
    refine ⟨hc, B', ?_, k, p⟩
    rwa [show min (max (max ok 1) n) n = n by omega] at u
  case step =>
    rintro k c t h1 h2 ⟨rfl, B', u, kp, pe⟩
    rw [show min k n = k by omega] at u
    refine wpS_bind (wpS_mono (wpS_forRange (I := fun x c t' => t' = t ∧ ∃ l r, c = (none, l, r) ∧ l ≤ r ∧ r ≤ k ∧ r - l ≤ k - x ∧
        (∀ i, i < l → R rk (arrOf t) (lo + i) ≤ R rk (arrOf t) (lo + k)) ∧ (∀ i, r ≤ i → i < k → R rk (arrOf t) (lo + k) < R rk (arrOf t) (lo + i)))
      (Q := fun c t' => t' = t ∧ ∃ l r, c = (none, l, r) ∧ l ≤ k ∧ (∀ i, i < l → R rk (arrOf t) (lo + i) ≤ R rk (arrOf t) (lo + k)) ∧ (∀ i, l ≤ i → i < k → R rk (arrOf t) (lo + k) < R rk (arrOf t) (lo + i))) ?st2 ?fin2 ?init2) ?post2)
    case init2 => exact ⟨rfl, 0, k, rfl, by omega, by omega, by omega, fun i hi => by omega, fun i h1 h2 => by omega⟩
    case fin2 =>
      rintro c t' ⟨rfl, l, r, rfl, a1, a2, a3, a4, a5⟩
      have : l = r := by omega
      subst this
      exact ⟨rfl, l, l, rfl, a2, a4, a5⟩
    case st2 =>
      rintro x c t' _ hx ⟨rfl, l, r, rfl, a1, a2, a3, a4, a5⟩
      dsimp only
      by_cases z : l ≥ r
      · rw [if_pos z]
        have : l = r := by omega
        subst this
        exact wpS_pure ⟨rfl, l, l, rfl, a2, a4, a5⟩
      · rw [if_neg z]
        refine wpS_bind (ltAt_of C B' (by omega) (by omega) ?_)
        by_cases y : R rk (arrOf t') (lo + k) < R rk (arrOf t') (lo + (l + r) / 2)
        · simp only [y, decide_true, if_true]
          refine wpS_pure ⟨rfl, l, (l + r) / 2, rfl, by omega, by omega, by omega, a4, fun i b1 b2 => ?_⟩
          have := u (lo + (l + r) / 2) (lo + i) (by omega) (by omega) (by omega)
          omega
        · simp only [y, decide_false, Bool.false_eq_true, if_false]
          refine wpS_pure ⟨rfl, (l + r) / 2 + 1, r, rfl, by omega, by omega, by omega, fun i b1 => ?_, a5⟩
          have := u (lo + i) (lo + (l + r) / 2) (by omega) (by omega) (by omega)
          omega
    case post2 =>
      rintro c t' ⟨rfl, l, r, rfl, a1, a2, a3⟩
      show wpS _ _ _ _ (do moveDown' (lo + k) (lo + l); pure (ForInStep.yield (none, ()))) _ _
      rw [moveDown'_eq]
      have hz : lo + k < (arrOf t').size := by rw [B'.size]; omega
      refine wpS_bind (wpS_modify (wpS_pure ⟨rfl, B'.set (bubble_perm _ _ _), ?_, kp.trans (kept_bubble hz (by omega) (by omega) (by omega)), pe⟩))
      rw [show min (k + 1) n = k + 1 by omega]
      intro i j b1 b2 b3
      show R rk (bubble (arrOf t') (lo + k) (lo + k - (lo + l))) i ≤ R rk (bubble (arrOf t') (lo + k) (lo + k - (lo + l))) j
      have f1 : ∀ i, lo ≤ i → i < lo + l → R rk (arrOf t') i ≤ R rk (arrOf t') (lo + k) := fun i c1 c2 => by have := a2 (i - lo) (by omega); rwa [show lo + (i - lo) = i by omega] at this
      have f2 : ∀ i, lo + l ≤ i → i < lo + k → R rk (arrOf t') (lo + k) < R rk (arrOf t') i := fun i c1 c2 => by have := a3 (i - lo) (by omega) (by omega); rwa [show lo + (i - lo) = i by omega] at this
      rw [R_bubble hz (by omega), R_bubble hz (by omega), show lo + k - (lo + k - (lo + l)) = lo + l by omega]
      repeat' split
      all_goals first
        | (exfalso; omega)
        | exact Nat.le_refl _
        | exact f1 _ (by omega) (by omega)
        | exact Nat.le_of_lt (f2 _ (by omega) (by omega))
        | exact u _ _ (by omega) (by omega) (by omega)
end
end TS
namespace TS
open PySem PyProof.Rows
section
variable {prog : Program} {w : World} {A : Around} {E : Value → Shared → Prop} {s : Shared}
variable {rk : Keyed → Nat} {a0 : Array Keyed} {κ : SortKind}
theorem up_one {xs : Array Keyed} {lo x : Nat} (u : Up rk xs lo (lo + x)) (x1 : 1 ≤ x) (h : ¬ R rk xs (lo + x) < R rk xs (lo + x - 1)) : Up rk xs lo (lo + (x + 1)) := fun i j h1 h2 h3 => by
  by_cases hj : j < lo + x
  · exact u i j h1 h2 hj
  · have e : j = lo + x := by omega
    subst e
    by_cases hi : i = lo + x
    · rw [hi]; exact Nat.le_refl _
    · have := u i (lo + x - 1) h1 (by omega) (by omega)
      omega
theorem down_one {xs : Array Keyed} {lo x : Nat} (u : Down rk xs lo (lo + x)) (x1 : 1 ≤ x) (h : R rk xs (lo + x) ≤ R rk xs (lo + x - 1)) : Down rk xs lo (lo + (x + 1)) := fun i j h1 h2 h3 => by
  by_cases hj : j < lo + x
  · exact u i j h1 h2 hj
  · have e : j = lo + x := by omega
    subst e
    by_cases hi : i = lo + x
    · rw [hi]; exact Nat.le_refl _
    · have := u i (lo + x - 1) h1 (by omega) (by omega)
      omega
def RunQ (a0 : Array Keyed) (κ : SortKind) (rk : Keyed → Nat) (lo nrem : Nat) (st : SortSt) (r : Option Nat) (t : SortSt) : Prop :=
  ∃ m, r = some m ∧ Bs a0 κ t ∧ 1 ≤ m ∧ m ≤ nrem ∧ Up rk (arrOf t) lo (lo + m) ∧ Kept (arrOf st) (arrOf t) lo (lo + nrem) ∧ pendingOf t = pendingOf st
theorem run_of {st : SortSt} {lo nrem : Nat} (C : Cm prog w A s κ rk a0) (hn : lo + nrem ≤ a0.size) (n1 : 1 ≤ nrem) (B : Bs a0 κ st) : wpS (model prog w) A E s (countRun' lo nrem) (RunQ a0 κ rk lo nrem st) st := by
  rw [countRun'_eq]
  refine wpS_bind (wpS_mono (wpS_forRange (I := fun x c t => t = st ∧ c = (none, x) ∧ Up rk (arrOf st) lo (lo + x))
    (Q := fun c t => t = st ∧ ∃ n, c = (none, n) ∧ 1 ≤ n ∧ n ≤ nrem ∧ Up rk (arrOf st) lo (lo + n) ∧ (n = nrem ∨ R rk (arrOf st) (lo + n) < R rk (arrOf st) (lo + n - 1))) ?step ?fin
    ⟨rfl, rfl, fun i j h1 h2 h3 => by rw [show i = j by omega]; exact Nat.le_refl _⟩) ?post)
  case fin =>
    rintro c t ⟨rfl, rfl, u⟩
    rw [show max 1 nrem = nrem by omega] at u ⊢
    exact ⟨rfl, nrem, rfl, n1, Nat.le_refl _, u, .inl rfl⟩
  case step =>
    rintro x c t x1 xn ⟨rfl, rfl, u⟩
    dsimp only
    refine wpS_bind (ltAt_of C B (by omega) (by omega) ?_)
    by_cases y : R rk (arrOf t) (lo + x) < R rk (arrOf t) (lo + x - 1)
    · simp only [y, decide_true, if_true]
      exact wpS_pure ⟨rfl, x, rfl, x1, by omega, u, .inr y⟩
    · simp only [y, decide_false, Bool.false_eq_true, if_false]
      exact wpS_pure ⟨rfl, rfl, up_one u x1 y⟩
  case post =>
    rintro c t ⟨rfl, n, rfl, m1, mn, u, hor⟩
    dsimp only
    by_cases z : n = nrem
    · rw [if_pos (by simpa using z)]
      exact wpS_pure ⟨n, rfl, B, m1, mn, u, Kept.refl _ _ _, rfl⟩
    · rw [if_neg (by simpa using z)]
      have lt := hor.resolve_left z
      suffices D : ∀ t', Bs a0 κ t' → Down rk (arrOf t') lo (lo + (n + 1)) → Kept (arrOf t) (arrOf t') lo (lo + nrem) → pendingOf t' = pendingOf t → wpS (model prog w) A E s _ (RunQ a0 κ rk lo nrem t) t' by
        by_cases g : n > 1
        · rw [if_pos g]
          refine wpS_bind (ltAt_of C B (by omega) (by omega) ?_)
          by_cases y : R rk (arrOf t) lo < R rk (arrOf t) (lo + n - 1)
          · simp only [y, decide_true, if_true]
            exact wpS_pure ⟨n, rfl, B, m1, mn, u, Kept.refl _ _ _, rfl⟩
          · simp only [y, decide_false, Bool.false_eq_true, if_false]
            have hz : lo + n ≤ (arrOf t).size := by rw [B.size]; omega
            have all : ∀ k, lo ≤ k → k < lo + n → R rk (arrOf t) k = R rk (arrOf t) (lo + n - 1) := fun k h1 h2 => by
              have a1 := u lo k (by omega) h1 h2
              have a2 := u k (lo + n - 1) h1 (by omega) (by omega)
              omega
            refine wpS_bind (rev_of (D _ (B.set (mirror_perm _ _ _ _)) ?_ (kept_mirror hz (Nat.le_refl _) (by omega)) rfl))
            refine down_one (fun i j h1 h2 h3 => ?_) m1 ?_
            · show R rk (mirror (arrOf t) _ _ _) j ≤ R rk (mirror (arrOf t) _ _ _) i
              rw [R_alike hz all, R_alike hz all, all i h1 (by omega), all j (by omega) h3]
              exact Nat.le_refl _
            · show R rk (mirror (arrOf t) _ _ _) _ ≤ R rk (mirror (arrOf t) _ _ _) _
              rw [R_alike hz all, R_alike hz all]
              omega
        · rw [if_neg g]
          refine D _ B (down_one (fun i j h1 h2 h3 => by rw [show i = j by omega]; exact Nat.le_refl _) m1 (by omega)) (Kept.refl _ _ _) rfl
      intro t1 B1 d1 k1 p1
      refine wpS_bind (wpS_lift (wpAny_rule ⟨rfl, ?_⟩))
      refine wpS_bind (wpS_mono (wpS_forRange (I := fun x c t' => ∃ q, c = (none, x, q) ∧ Bs a0 κ t' ∧ Down rk (arrOf t') lo (lo + x) ∧ q + 1 ≤ x ∧ (∀ i, lo + x - (q + 1) ≤ i → i < lo + x → R rk (arrOf t') i = R rk (arrOf t') (lo + x - 1)) ∧ Kept (arrOf t) (arrOf t') lo (lo + nrem) ∧ pendingOf t' = pendingOf t)
        (Q := fun c t' => ∃ x q, c = (none, x, q) ∧ n + 1 ≤ x ∧ x ≤ nrem ∧ Bs a0 κ t' ∧ Down rk (arrOf t') lo (lo + x) ∧ q + 1 ≤ x ∧ (∀ i, lo + x - (q + 1) ≤ i → i < lo + x → R rk (arrOf t') i = R rk (arrOf t') (lo + x - 1)) ∧ Kept (arrOf t) (arrOf t') lo (lo + nrem) ∧ pendingOf t' = pendingOf t) ?step2 ?fin2
        ⟨0, rfl, B1, d1, by omega, (fun i h1 h2 => by rw [show i = lo + (n + 1) - 1 by omega]), k1, p1⟩) ?post2)
      case fin2 =>
        rintro c t' ⟨q, rfl, B', d, q1, al, k, p⟩
        rw [show max (n + 1) nrem = nrem by omega] at d q1 al ⊢
        exact ⟨nrem, q, rfl, by omega, Nat.le_refl _, B', d, q1, al, k, p⟩
      case step2 =>
        rintro x c t' x1 xn ⟨q, rfl, B', d, q1, al, k, p⟩
        dsimp only
        have hz : lo + x ≤ (arrOf t').size := by rw [B'.size]; omega
        refine wpS_bind (ltAt_of C B' (by omega) (by omega) ?_)
        by_cases y : R rk (arrOf t') (lo + x) < R rk (arrOf t') (lo + x - 1)
        · simp only [y, decide_true, if_true]
          by_cases g : q > 0
          · rw [if_pos g]
            refine wpS_bind (rev_of (wpS_pure ⟨0, rfl, B'.set (mirror_perm _ _ _ _), ?_, by omega, (fun i h1 h2 => by rw [show i = lo + (x + 1) - 1 by omega]), k.trans (kept_mirror hz (by omega) (by omega)), p⟩))
            refine down_one (fun i j h1 h2 h3 => ?_) (by omega) ?_
            · show R rk (mirror (arrOf t') _ _ _) j ≤ R rk (mirror (arrOf t') _ _ _) i
              rw [R_alike hz al, R_alike hz al]
              exact d i j h1 h2 h3
            · show R rk (mirror (arrOf t') _ _ _) _ ≤ R rk (mirror (arrOf t') _ _ _) _
              rw [R_alike hz al, R_alike hz al]
              omega
          · rw [if_neg g]
            exact wpS_pure ⟨0, rfl, B', down_one d (by omega) (by omega), by omega, (fun i h1 h2 => by rw [show i = lo + (x + 1) - 1 by omega]), k, p⟩
        · simp only [y, decide_false, Bool.false_eq_true, if_false]
          refine wpS_bind (ltAt_of C B' (by omega) (by omega) ?_)
          by_cases g : R rk (arrOf t') (lo + x - 1) < R rk (arrOf t') (lo + x)
          · simp only [g, decide_true, if_true]
            exact wpS_pure ⟨x, q, rfl, x1, by omega, B', d, q1, al, k, p⟩
          · simp only [g, decide_false, Bool.false_eq_true, if_false]
            have e : R rk (arrOf t') (lo + x) = R rk (arrOf t') (lo + x - 1) := by omega
            refine wpS_pure ⟨q + 1, rfl, B', down_one d (by omega) (by omega), by omega, fun i h1 h2 => ?_, k, p⟩
            rw [show lo + (x + 1) - 1 = lo + x by omega]
            by_cases hi : i = lo + x
            · rw [hi]
            · rw [e]; exact al i (by omega) (by omega)
      case post2 =>
        rintro c t2 ⟨x, q, rfl, x1, xn, B2, d, q1, al, k2, p2⟩
        dsimp only
        have hz : lo + x ≤ (arrOf t2).size := by rw [B2.size]; omega
        suffices T : ∀ t3, Bs a0 κ t3 → Down rk (arrOf t3) lo (lo + x) → Kept (arrOf t) (arrOf t3) lo (lo + nrem) → pendingOf t3 = pendingOf t → wpS (model prog w) A E s _ (RunQ a0 κ rk lo nrem t) t3 by
          by_cases g : q > 0
          · rw [if_pos g]
            refine wpS_bind (rev_of (T _ (B2.set (mirror_perm _ _ _ _)) (fun i j h1 h2 h3 => ?_) (k2.trans (kept_mirror hz (by omega) (by omega))) p2))
            show R rk (mirror (arrOf t2) _ _ _) j ≤ R rk (mirror (arrOf t2) _ _ _) i
            rw [R_alike hz al, R_alike hz al]
            exact d i j h1 h2 h3
          · rw [if_neg g]
            exact T _ B2 d k2 p2
        intro t3 B3 d3 k3 p3
        have hz3 : lo + x ≤ (arrOf t3).size := by rw [B3.size]; omega
        refine wpS_bind (rev_of ?_)
        have B4 := B3.set (mirror_perm (arrOf t3) lo (lo + x) ((lo + x - lo) / 2))
        have u4 : Up rk (arrOf (setArr t3 (mirror (arrOf t3) lo (lo + x) ((lo + x - lo) / 2)))) lo (lo + x) := fun i j h1 h2 h3 => by
          show R rk (mirror (arrOf t3) _ _ _) i ≤ R rk (mirror (arrOf t3) _ _ _) j
          rw [R_mirror hz3, R_mirror hz3, if_pos (by omega), if_pos (by omega)]
          exact d3 _ _ (by omega) (by omega) (by omega)
        have k4 : Kept (arrOf t) (arrOf (setArr t3 (mirror (arrOf t3) lo (lo + x) ((lo + x - lo) / 2)))) lo (lo + nrem) := k3.trans (kept_mirror hz3 (Nat.le_refl _) (by omega))
        have p4 : pendingOf (setArr t3 (mirror (arrOf t3) lo (lo + x) ((lo + x - lo) / 2))) = pendingOf t := p3
        generalize setArr t3 (mirror (arrOf t3) lo (lo + x) ((lo + x - lo) / 2)) = t4 at B4 u4 k4 p4 ⊢
        refine wpS_bind (wpS_mono (wpS_forRange (I := fun y c t' => t' = t4 ∧ c = (none, y) ∧ Up rk (arrOf t4) lo (lo + y)) (Q := fun c t' => t' = t4 ∧ ∃ y, c = (none, y) ∧ x ≤ y ∧ y ≤ nrem ∧ Up rk (arrOf t4) lo (lo + y)) ?step3 ?fin3 ⟨rfl, rfl, u4⟩) ?post3)
        case fin3 =>
          rintro c t' ⟨rfl, rfl, v⟩
          rw [show max x nrem = nrem by omega] at v ⊢
          exact ⟨rfl, nrem, rfl, xn, Nat.le_refl _, v⟩
        case step3 =>
          rintro y c t' y1 yn ⟨rfl, rfl, v⟩
          dsimp only
          refine wpS_bind (ltAt_of C B4 (by omega) (by omega) ?_)
          by_cases g : R rk (arrOf t') (lo + y) < R rk (arrOf t') (lo + y - 1)
          · simp only [g, decide_true, if_true]
            exact wpS_pure ⟨rfl, y, rfl, y1, by omega, v⟩
          · simp only [g, decide_false, Bool.false_eq_true, if_false]
            exact wpS_pure ⟨rfl, rfl, up_one v (by omega) g⟩
        case post3 =>
          rintro c t' ⟨rfl, y, rfl, y1, yn, v⟩
          exact wpS_pure ⟨y, rfl, B4, by omega, yn, v, k4, p4⟩
end
end TS
namespace TS
open PySem PyProof.Rows
def gal : Bool → Keyed → Array Keyed → Nat → Nat → Nat → StateT SortSt Sem (Option Nat) := sortPriv% PySem.Builtin.gallop
section
variable {prog : Program} {w : World} {A : Around} {E : Value → Shared → Prop} {s : Shared}
variable {rk : Keyed → Nat} {a0 : Array Keyed} {κ : SortKind}
def bey (rk : Keyed → Nat) (left : Bool) (key : Keyed) (arr : Array Keyed) (base i : Nat) : Bool := if left then decide (R rk arr (base + i) < rk key) else !decide (rk key < R rk arr (base + i))
theorem bey_mono {left : Bool} {key : Keyed} {arr : Array Keyed} {base n i j : Nat} (u : Up rk arr base (base + n)) (h1 : i ≤ j) (h2 : j < n) (h : bey rk left key arr base j = true) : bey rk left key arr base i = true := by
  have := u (base + i) (base + j) (by omega) (by omega) (by omega)
  unfold bey at h ⊢
  cases left
  · simp at h ⊢; omega
  · simp at h ⊢; omega
theorem elem_of {arr : Array Keyed} {i : Nat} {st : SortSt} {Q : Keyed → SortSt → Prop} {p : Keyed} (h : arr[i]? = some p) (q : Q p st) : wpS (model prog w) A E s (elem' arr i) Q st := by
  rw [elem'_eq, h]; exact wpS_pure q
def In0 (a0 arr : Array Keyed) : Prop := ∀ x ∈ arr.toList, x ∈ a0.toList
theorem In0.at {arr : Array Keyed} (h : In0 a0 arr) {i : Nat} (hi : i < arr.size) : ∃ p, arr[i]? = some p ∧ p ∈ a0.toList := ⟨arr[i], getElem?_pos _ i hi, h _ (by simp)⟩
theorem R_at {arr : Array Keyed} {i : Nat} {p : Keyed} (h : arr[i]? = some p) : R rk arr i = rk p := by unfold R; rw [h]
theorem gal_of {st : SortSt} {left : Bool} {key : Keyed} {arr : Array Keyed} {base n hint : Nat} {Q : Option Nat → SortSt → Prop} (C : Cm prog w A s κ rk a0) (hk : kindOf st = κ) (ia : In0 a0 arr) (ik : key ∈ a0.toList) (hz : base + n ≤ arr.size) (hh : hint < n)
    (u : Up rk arr base (base + n)) (h : ∀ k, k ≤ n → (∀ i, i < k → bey rk left key arr base i = true) → (∀ i, k ≤ i → i < n → bey rk left key arr base i = false) → Q (some k) st) : wpS (model prog w) A E s (gal left key arr base n hint) Q st := by
  have by0 : ∀ (i : Nat) (Q' : Option Bool → SortSt → Prop), i < n → Q' (some (bey rk left key arr base i)) st → wpS (model prog w) A E s (do let x ← elem' arr (base + i); if left then lt' x key else return (← lt' key x).map (!·)) Q' st := by
    intro i Q' hi q
    obtain ⟨p, e, m⟩ := ia.at (show base + i < arr.size by omega)
    refine wpS_bind (elem_of e ?_)
    unfold bey at q
    rw [R_at e] at q
    cases left with
    | true => 
      rw [if_pos rfl] at q ⊢
      exact lt_of C hk m ik q
    | false =>
      rw [if_neg (by decide)] at q ⊢
      exact wpS_bind (lt_of C hk ik m (wpS_pure q))
  refine wpS_bind (by0 hint _ hh ?_)
  cases hr : bey rk left key arr base hint with
  | true =>
    dsimp only
    rw [if_pos rfl]
    refine wpS_bind (wpS_mono (wpS_forRange (I := fun x c t => t = st ∧ ∃ l o, c = (none, l, o) ∧ l < o ∧ l < n - hint ∧ x + 1 ≤ o ∧ bey rk left key arr base (hint + l) = true)
      (Q := fun c t => t = st ∧ ∃ l o, c = (none, l, o) ∧ l < o ∧ l < n - hint ∧ bey rk left key arr base (hint + l) = true ∧ (n - hint ≤ o ∨ bey rk left key arr base (hint + o) = false)) ?step ?fin ⟨rfl, 0, 1, rfl, by omega, by omega, by omega, hr⟩) ?post)
    case fin =>
      rintro c t ⟨rfl, l, o, rfl, a1, a2, a3, a4⟩
      exact ⟨rfl, l, o, rfl, a1, a2, a4, .inl (by omega)⟩
    case step =>
      rintro x c t _ xn ⟨rfl, l, o, rfl, a1, a2, a3, a4⟩
      dsimp only
      by_cases z : o ≥ n - hint
      · rw [if_pos z]
        exact wpS_pure ⟨rfl, l, o, rfl, a1, a2, a4, .inl z⟩
      · rw [if_neg z]
        refine wpS_bind (by0 (hint + o) _ (by omega) ?_)
        cases y : bey rk left key arr base (hint + o) with
        | true =>
          dsimp only
          rw [if_neg (by decide)]
          exact wpS_pure ⟨rfl, _, _, rfl, by omega, by omega, by omega, y⟩
        | false =>
          dsimp only
          rw [if_pos (by decide)]
          exact wpS_pure ⟨rfl, l, o, rfl, a1, a2, a4, .inr y⟩
    case post =>
      rintro c t ⟨ht, l, o, rfl, a1, a2, a3, a4⟩
      obtain rfl := ht.symm
      dsimp only
      have le1 : hint + l + 1 ≤ hint + min o (n - hint) := by omega
      have le2 : hint + min o (n - hint) ≤ n := by omega
      have b1 : ∀ i, i < hint + l + 1 → bey rk left key arr base i = true := fun i h1 => bey_mono u (show i ≤ hint + l by omega) (by omega) a3
      have b2 : ∀ i, hint + min o (n - hint) ≤ i → i < n → bey rk left key arr base i = false := fun i h1 h2 => by
        rcases a4 with a4 | a4
        · omega
        · cases y' : bey rk left key arr base i with
          | false => rfl
          | true => rw [bey_mono u (show hint + o ≤ i by omega) h2 y'] at a4; cases a4
      refine wpS_bind (wpS_mono (wpS_forRange (I := fun x c t => t = st ∧ ∃ lo hi, c = (none, lo, hi) ∧ lo ≤ hi ∧ hi ≤ n ∧ hi - lo ≤ n - x ∧ (∀ i, i < lo → bey rk left key arr base i = true) ∧ (∀ i, hi ≤ i → i < n → bey rk left key arr base i = false))
        (Q := fun c t => t = st ∧ ∃ lo hi, c = (none, lo, hi) ∧ hi ≤ n ∧ (∀ i, i < hi → bey rk left key arr base i = true) ∧ (∀ i, hi ≤ i → i < n → bey rk left key arr base i = false)) ?stepB ?finB ⟨rfl, _, _, rfl, le1, le2, by omega, b1, b2⟩) ?postB)
      case finB =>
        rintro c t ⟨rfl, lo, hi, rfl, a1, a2, a3, a4, a5⟩
        rw [show lo = hi by omega] at a4
        exact ⟨rfl, lo, hi, rfl, a2, a4, a5⟩
      case stepB =>
        rintro x c t _ xn ⟨rfl, lo, hi, rfl, a1, a2, a3, a4, a5⟩
        dsimp only
        by_cases z : lo ≥ hi
        · rw [if_pos z]
          rw [show lo = hi by omega] at a4
          exact wpS_pure ⟨rfl, lo, hi, rfl, a2, a4, a5⟩
        · rw [if_neg z]
          refine wpS_bind (by0 (lo + (hi - lo) / 2) _ (by omega) ?_)
          cases y : bey rk left key arr base (lo + (hi - lo) / 2) with
          | true =>
            dsimp only
            rw [if_pos rfl]
            exact wpS_pure ⟨rfl, _, _, rfl, by omega, a2, by omega, fun i h1 => bey_mono u (show i ≤ lo + (hi - lo) / 2 by omega) (by omega) y, a5⟩
          | false =>
            dsimp only
            rw [if_neg (by decide)]
            refine wpS_pure ⟨rfl, _, _, rfl, by omega, by omega, by omega, a4, fun i h1 h2 => ?_⟩
            cases y' : bey rk left key arr base i with
            | false => rfl
            | true => rw [bey_mono u h1 h2 y'] at y; cases y
      case postB =>
        rintro c t ⟨rfl, lo, hi, rfl, a1, a2, a3⟩
        exact wpS_pure (h hi a1 a2 a3)
  | false =>
    dsimp only
    rw [if_neg (by decide)]
    refine wpS_bind (wpS_mono (wpS_forRange (I := fun x c t => t = st ∧ ∃ l o, c = (none, l, o) ∧ l < o ∧ l < hint + 1 ∧ x + 1 ≤ o ∧ bey rk left key arr base (hint - l) = false)
      (Q := fun c t => t = st ∧ ∃ l o, c = (none, l, o) ∧ l < o ∧ l < hint + 1 ∧ bey rk left key arr base (hint - l) = false ∧ (hint + 1 ≤ o ∨ bey rk left key arr base (hint - o) = true)) ?step ?fin ⟨rfl, 0, 1, rfl, by omega, by omega, by omega, hr⟩) ?post)
    case fin =>
      rintro c t ⟨rfl, l, o, rfl, a1, a2, a3, a4⟩
      exact ⟨rfl, l, o, rfl, a1, a2, a4, .inl (by omega)⟩
    case step =>
      rintro x c t _ xn ⟨rfl, l, o, rfl, a1, a2, a3, a4⟩
      dsimp only
      by_cases z : o ≥ hint + 1
      · rw [if_pos z]
        exact wpS_pure ⟨rfl, l, o, rfl, a1, a2, a4, .inl z⟩
      · rw [if_neg z]
        refine wpS_bind (by0 (hint - o) _ (by omega) ?_)
        cases y : bey rk left key arr base (hint - o) with
        | false =>
          dsimp only
          rw [if_neg (by decide)]
          exact wpS_pure ⟨rfl, _, _, rfl, by omega, by omega, by omega, y⟩
        | true =>
          dsimp only
          rw [if_pos rfl]
          exact wpS_pure ⟨rfl, l, o, rfl, a1, a2, a4, .inr y⟩
    case post =>
      rintro c t ⟨ht, l, o, rfl, a1, a2, a3, a4⟩
      obtain rfl := ht.symm
      dsimp only
      have le1 : hint + 1 - min o (hint + 1) ≤ hint - l := by omega
      have le2 : hint - l ≤ n := by omega
      have b1 : ∀ i, i < hint + 1 - min o (hint + 1) → bey rk left key arr base i = true := fun i h1 => by
        rcases a4 with a4 | a4
        · omega
        · exact bey_mono u (show i ≤ hint - o by omega) (by omega) a4
      have b2 : ∀ i, hint - l ≤ i → i < n → bey rk left key arr base i = false := fun i h1 h2 => by
        cases y' : bey rk left key arr base i with
        | false => rfl
        | true => rw [bey_mono u h1 h2 y'] at a3; cases a3
      refine wpS_bind (wpS_mono (wpS_forRange (I := fun x c t => t = st ∧ ∃ lo hi, c = (none, lo, hi) ∧ lo ≤ hi ∧ hi ≤ n ∧ hi - lo ≤ n - x ∧ (∀ i, i < lo → bey rk left key arr base i = true) ∧ (∀ i, hi ≤ i → i < n → bey rk left key arr base i = false))
        (Q := fun c t => t = st ∧ ∃ lo hi, c = (none, lo, hi) ∧ hi ≤ n ∧ (∀ i, i < hi → bey rk left key arr base i = true) ∧ (∀ i, hi ≤ i → i < n → bey rk left key arr base i = false)) ?stepB ?finB ⟨rfl, _, _, rfl, le1, le2, by omega, b1, b2⟩) ?postB)
      case finB =>
        rintro c t ⟨rfl, lo, hi, rfl, a1, a2, a3, a4, a5⟩
        rw [show lo = hi by omega] at a4
        exact ⟨rfl, lo, hi, rfl, a2, a4, a5⟩
      case stepB =>
        rintro x c t _ xn ⟨rfl, lo, hi, rfl, a1, a2, a3, a4, a5⟩
        dsimp only
        by_cases z : lo ≥ hi
        · rw [if_pos z]
          rw [show lo = hi by omega] at a4
          exact wpS_pure ⟨rfl, lo, hi, rfl, a2, a4, a5⟩
        · rw [if_neg z]
          refine wpS_bind (by0 (lo + (hi - lo) / 2) _ (by omega) ?_)
          cases y : bey rk left key arr base (lo + (hi - lo) / 2) with
          | true =>
            dsimp only
            rw [if_pos rfl]
            exact wpS_pure ⟨rfl, _, _, rfl, by omega, a2, by omega, fun i h1 => bey_mono u (show i ≤ lo + (hi - lo) / 2 by omega) (by omega) y, a5⟩
          | false =>
            dsimp only
            rw [if_neg (by decide)]
            refine wpS_pure ⟨rfl, _, _, rfl, by omega, by omega, by omega, a4, fun i h1 h2 => ?_⟩
            cases y' : bey rk left key arr base i with
            | false => rfl
            | true => rw [bey_mono u h1 h2 y'] at y; cases y
      case postB =>
        rintro c t ⟨rfl, lo, hi, rfl, a1, a2, a3⟩
        exact wpS_pure (h hi a1 a2 a3)
end
end TS
namespace TS
open PySem PyProof.Rows
section
variable {rk : Keyed → Nat}
def Le (rk : Keyed → Nat) (x y : Keyed) : Prop := rk x ≤ rk y
section
variable {le : Keyed → Keyed → Prop}
def Srt (le : Keyed → Keyed → Prop) (l : List Keyed) : Prop := l.Pairwise le
structure Mi (le : Keyed → Keyed → Prop) (a b out : List Keyed) (i j : Nat) : Prop where
  pm : out.Perm (a.take i ++ b.take j)
  up : Srt le out
  ba : ∀ x ∈ out, ∀ y ∈ a.drop i, le x y
  bb : ∀ x ∈ out, ∀ y ∈ b.drop j, le x y
theorem srt_app {l m : List Keyed} : Srt le (l ++ m) ↔ Srt le l ∧ Srt le m ∧ ∀ x ∈ l, ∀ y ∈ m, le x y := List.pairwise_append
theorem srt_drop {l : List Keyed} (h : Srt le l) (i : Nat) : Srt le (l.drop i) := List.Pairwise.sublist (List.drop_sublist i l) h
theorem drop_at {l : List Keyed} {i : Nat} {x : Keyed} (h : l[i]? = some x) : l.drop i = x :: l.drop (i + 1) := by
  obtain ⟨hi, e⟩ := List.getElem?_eq_some_iff.mp h
  rw [List.drop_eq_getElem_cons hi, e]
theorem take_at {l : List Keyed} {i : Nat} {x : Keyed} (h : l[i]? = some x) : l.take (i + 1) = l.take i ++ [x] := by rw [List.take_succ, h]; rfl
theorem srt_head (rf : ∀ x, le x x) {l : List Keyed} (s : Srt le l) {i : Nat} {x : Keyed} (h : l[i]? = some x) : ∀ y ∈ l.drop i, le x y := fun y hy => by
  have := srt_drop s i
  rw [drop_at h] at this hy
  rcases List.mem_cons.mp hy with e | e
  · rw [e]; exact rf _
  · exact (List.pairwise_cons.mp this).1 y e
theorem Mi.pushA (rf : ∀ x, le x x) {a b out : List Keyed} {i j : Nat} {x : Keyed} (h : Mi le a b out i j) (sa : Srt le a) (hx : a[i]? = some x) (hb : ∀ y ∈ b.drop j, le x y) : Mi le a b (out ++ [x]) (i + 1) j := by
  have da := drop_at hx
  have mx : x ∈ a.drop i := by rw [da]; exact List.mem_cons_self
  refine ⟨?_, ?_, ?_, ?_⟩
  · rw [take_at hx, List.append_assoc]
    refine (h.pm.append_right [x]).trans ?_
    rw [List.append_assoc]
    exact List.Perm.append_left _ List.perm_append_comm
  · refine srt_app.mpr ⟨h.up, List.pairwise_singleton _ _, fun y hy z hz => ?_⟩
    rw [List.mem_singleton.mp hz]
    exact h.ba y hy x mx
  · intro y hy z hz
    have hz' : z ∈ a.drop i := by rw [da]; exact List.mem_cons_of_mem _ hz
    rcases List.mem_append.mp hy with e | e
    · exact h.ba y e z hz'
    · rw [List.mem_singleton.mp e]
      exact srt_head rf sa hx z hz'
  · intro y hy z hz
    rcases List.mem_append.mp hy with e | e
    · exact h.bb y e z hz
    · rw [List.mem_singleton.mp e]
      exact hb z hz
theorem Mi.pushB (rf : ∀ x, le x x) {a b out : List Keyed} {i j : Nat} {x : Keyed} (h : Mi le a b out i j) (sb : Srt le b) (hx : b[j]? = some x) (ha : ∀ y ∈ a.drop i, le x y) : Mi le a b (out ++ [x]) i (j + 1) := by
  have db := drop_at hx
  have mx : x ∈ b.drop j := by rw [db]; exact List.mem_cons_self
  refine ⟨?_, ?_, ?_, ?_⟩
  · rw [take_at hx, ← List.append_assoc]
    exact h.pm.append_right [x]
  · refine srt_app.mpr ⟨h.up, List.pairwise_singleton _ _, fun y hy z hz => ?_⟩
    rw [List.mem_singleton.mp hz]
    exact h.bb y hy x mx
  · intro y hy z hz
    rcases List.mem_append.mp hy with e | e
    · exact h.ba y e z hz
    · rw [List.mem_singleton.mp e]
      exact ha z hz
  · intro y hy z hz
    have hz' : z ∈ b.drop j := by rw [db]; exact List.mem_cons_of_mem _ hz
    rcases List.mem_append.mp hy with e | e
    · exact h.bb y e z hz'
    · rw [List.mem_singleton.mp e]
      exact srt_head rf sb hx z hz'
theorem seg_succ {l : List Keyed} {i k : Nat} {x : Keyed} (h : l[i + k]? = some x) : (l.take (i + (k + 1))).drop i = (l.take (i + k)).drop i ++ [x] := by
  have hl := (List.getElem?_eq_some_iff.mp h).1
  rw [show i + (k + 1) = (i + k) + 1 by omega, take_at h, List.drop_append_of_le_length (by rw [List.length_take]; omega)]
theorem Mi.manyA (rf : ∀ x, le x x) {a b out : List Keyed} {i j : Nat} (h : Mi le a b out i j) (sa : Srt le a) : ∀ k, i + k ≤ a.length → (∀ n x, n < k → a[i + n]? = some x → ∀ y ∈ b.drop j, le x y) → Mi le a b (out ++ (a.take (i + k)).drop i) (i + k) j
  | 0, _, _ => by rw [Nat.add_zero, List.drop_eq_nil_of_le (by rw [List.length_take]; omega), List.append_nil]; exact h
  | k + 1, hl, hc => by
    have e : a[i + k]? = some a[i + k] := List.getElem?_eq_getElem (by omega)
    rw [seg_succ e, ← List.append_assoc, show i + (k + 1) = i + k + 1 by omega]
    exact (Mi.manyA rf h sa k (by omega) fun n x hn => hc n x (by omega)).pushA rf sa e (hc k _ (by omega) e)
theorem Mi.manyB (rf : ∀ x, le x x) {a b out : List Keyed} {i j : Nat} (h : Mi le a b out i j) (sb : Srt le b) : ∀ k, j + k ≤ b.length → (∀ n x, n < k → b[j + n]? = some x → ∀ y ∈ a.drop i, le x y) → Mi le a b (out ++ (b.take (j + k)).drop j) i (j + k)
  | 0, _, _ => by rw [Nat.add_zero, List.drop_eq_nil_of_le (by rw [List.length_take]; omega), List.append_nil]; exact h
  | k + 1, hl, hc => by
    have e : b[j + k]? = some b[j + k] := List.getElem?_eq_getElem (by omega)
    rw [seg_succ e, ← List.append_assoc, show j + (k + 1) = j + k + 1 by omega]
    exact (Mi.manyB rf h sb k (by omega) fun n x hn => hc n x (by omega)).pushB rf sb e (hc k _ (by omega) e)
def Mg (le : Keyed → Keyed → Prop) (a b r : List Keyed) : Prop := r.Perm (a ++ b) ∧ Srt le r
theorem perm_ends (a b out : List Keyed) (i j : Nat) (h : out.Perm (a.take i ++ b.take j)) : (out ++ a.drop i ++ b.drop j).Perm (a ++ b) := by
  have e1 := (h.append_right (a.drop i)).append_right (b.drop j)
  refine e1.trans ?_
  have e2 : ((a.take i ++ b.take j) ++ a.drop i).Perm (a ++ b.take j) := by
    rw [List.append_assoc]
    refine (List.Perm.append_left _ List.perm_append_comm).trans ?_
    rw [← List.append_assoc, List.take_append_drop]
  refine (e2.append_right _).trans ?_
  rw [List.append_assoc, List.take_append_drop]
theorem Mi.doneB {a b out : List Keyed} {i j : Nat} (h : Mi le a b out i j) (sa : Srt le a) (hj : b.length ≤ j) : Mg le a b (out ++ a.drop i ++ b.drop j) := by
  refine ⟨perm_ends a b out i j h.pm, ?_⟩
  rw [List.drop_eq_nil_of_le hj, List.append_nil]
  exact srt_app.mpr ⟨h.up, srt_drop sa i, h.ba⟩
theorem Mi.doneA {a b out : List Keyed} {i j : Nat} (h : Mi le a b out i j) (sb : Srt le b) (hi : a.length ≤ i) : Mg le a b (out ++ a.drop i ++ b.drop j) := by
  refine ⟨perm_ends a b out i j h.pm, ?_⟩
  rw [List.drop_eq_nil_of_le hi, List.append_nil]
  exact srt_app.mpr ⟨h.up, srt_drop sb j, h.bb⟩
theorem Mi.last {a b out : List Keyed} {i j : Nat} (h : Mi le a b out i j) (sa : Srt le a) (sb : Srt le b) (top : ∀ x ∈ b.drop j, ∀ y ∈ a.drop i, le x y) : Mg le a b (out ++ b.drop j ++ a.drop i) := by
  constructor
  · refine List.Perm.trans ?_ (perm_ends a b out i j h.pm)
    rw [List.append_assoc, List.append_assoc]
    exact List.Perm.append_left _ List.perm_append_comm
  · rw [List.append_assoc]
    refine srt_app.mpr ⟨h.up, srt_app.mpr ⟨srt_drop sb j, srt_drop sa i, top⟩, fun x hx y hy => ?_⟩
    rcases List.mem_append.mp hy with e | e
    · exact h.bb x hx y e
    · exact h.ba x hx y e
end
theorem srt_of_up {xs : Array Keyed} (u : Up rk xs 0 xs.size) : Srt (Le rk) xs.toList := by
  refine List.pairwise_iff_getElem.mpr fun i j hi hj hij => ?_
  have := u i j (Nat.zero_le _) (by omega) (by simpa using hj)
  rw [R_at (p := xs.toList[i]) (by simp), R_at (p := xs.toList[j]) (by simp)] at this
  exact this
theorem up_of_srt {xs : Array Keyed} (h : Srt (Le rk) xs.toList) : Up rk xs 0 xs.size := fun i j _ hij hj => by
  rcases Nat.lt_or_eq_of_le hij with z | z
  · have := List.pairwise_iff_getElem.mp h i j (by simp; omega) (by simpa using hj) z
    rw [R_at (i := i) (p := xs.toList[i]'(by simp; omega)) (by simp), R_at (i := j) (p := xs.toList[j]'(by simpa using hj)) (by simp)]
    exact this
  · rw [z]; exact Nat.le_refl _
end
end TS
namespace TS
open PySem PyProof.Rows
def mLo : Array Keyed → Array Keyed → StateT SortSt Sem (Array Keyed) := sortPriv% PySem.Builtin.mergeLo
section
variable {prog : Program} {w : World} {A : Around} {E : Value → Shared → Prop} {s : Shared}
variable {rk : Keyed → Nat} {a0 : Array Keyed} {κ : SortKind}
structure Like (st t : SortSt) : Prop where
  arr : arrOf t = arrOf st
  pend : pendingOf t = pendingOf st
  kind : kindOf t = kindOf st
  ok : failedOf t = failedOf st
theorem Like.refl (st : SortSt) : Like st st := ⟨rfl, rfl, rfl, rfl⟩
def MQ (rk : Keyed → Nat) (a b : Array Keyed) (st : SortSt) (r : Array Keyed) (t : SortSt) : Prop := Mg (Le rk) a.toList b.toList r.toList ∧ Like st t
theorem hv {β γ : Type} {F : γ} {K : γ → StateT SortSt Sem β} {Q : β → SortSt → Prop} {st : SortSt} (h : wpS (model prog w) A E s (K F) Q st) : wpS (model prog w) A E s (have x := F; K x) Q st := h
theorem wIte {β : Type} {c : Prop} [Decidable c] {m n : StateT SortSt Sem β} {Q : β → SortSt → Prop} {st : SortSt} (h1 : c → wpS (model prog w) A E s m Q st) (h2 : ¬ c → wpS (model prog w) A E s n Q st) : wpS (model prog w) A E s (if c then m else n) Q st := by
  split
  · exact h1 ‹_›
  · exact h2 ‹_›
theorem beqT {a b : Nat} (h : (a == b) = true) : a = b := by simpa using h
theorem beqF {a b : Nat} (h : ¬ (a == b) = true) : ¬ a = b := by simpa using h
theorem ext_tail (xs : Array Keyed) (i : Nat) : (xs.extract i).toList = xs.toList.drop i := by rw [Array.toList_extract, List.extract_eq_take_drop, List.take_of_length_le (by simp)]
theorem ext_seg (xs : Array Keyed) (i j : Nat) : (xs.extract i j).toList = (xs.toList.take j).drop i := by rw [Array.toList_extract, List.extract_eq_take_drop, List.drop_take]
theorem at_list {xs : Array Keyed} {i : Nat} {x : Keyed} (h : xs[i]? = some x) : xs.toList[i]? = some x := by rw [← h]; simp
theorem setG {st : SortSt} {g : Nat} {Q : Unit → SortSt → Prop} (h : Q () (SortSt.mk' (kindOf st) (arrOf st) (pendingOf st) g (failedOf st))) : wpS (model prog w) A E s ((sortPriv% PySem.Builtin.setMinGallop) g) Q st := wpS_modify h
theorem Like.gal {st t : SortSt} (h : Like st t) (g : Nat) : Like st (SortSt.mk' (kindOf t) (arrOf t) (pendingOf t) g (failedOf t)) := ⟨h.arr, h.pend, h.kind, h.ok⟩
theorem setL {st0 st : SortSt} {g : Nat} {Q : Unit → SortSt → Prop} (l : Like st0 st) (h : ∀ t, Like st0 t → Q () t) : wpS (model prog w) A E s ((sortPriv% PySem.Builtin.setMinGallop) g) Q st := setG (h _ (l.gal g))
theorem mLo_of {st : SortSt} {a b : Array Keyed} (C : Cm prog w A s κ rk a0) (hk : kindOf st = κ) (ia : In0 a0 a) (ib : In0 a0 b) (a1 : 1 ≤ a.size) (b1 : 1 ≤ b.size) (sa : Srt (Le rk) a.toList) (sb : Srt (Le rk) b.toList)
    (first : ∀ x, b[0]? = some x → ∀ y ∈ a.toList, Le rk x y) (last : ∀ x ∈ b.toList, ∀ y, a[a.size - 1]? = some y → Le rk x y) : wpS (model prog w) A E s (mLo a b) (MQ rk a b st) st := by
  have la : a.toList.length = a.size := Array.length_toList
  have lb : b.toList.length = b.size := Array.length_toList
  have ua := up_of_srt sa
  have ub := up_of_srt sb
  have doneB : ∀ out i j t, Mi (Le rk) a.toList b.toList (Array.toList out) i j → Like st t → b.size ≤ j → MQ rk a b st (out ++ a.extract i ++ b.extract j) t := fun out i j t m l hj => by
    refine ⟨?_, l⟩
    rw [Array.toList_append, Array.toList_append, ext_tail, ext_tail]
    exact m.doneB sa (by omega)
  have doneA : ∀ out i j t, Mi (Le rk) a.toList b.toList (Array.toList out) i j → Like st t → a.size ≤ i → MQ rk a b st (out ++ a.extract i ++ b.extract j) t := fun out i j t m l hi => by
    refine ⟨?_, l⟩
    rw [Array.toList_append, Array.toList_append, ext_tail, ext_tail]
    exact m.doneA sb (by omega)
  have lastA : ∀ out i j t, Mi (Le rk) a.toList b.toList (Array.toList out) i j → Like st t → i + 1 = a.size → MQ rk a b st (out ++ b.extract j ++ a.extract i) t := fun out i j t m l hi => by
    refine ⟨?_, l⟩
    rw [Array.toList_append, Array.toList_append, ext_tail, ext_tail]
    refine m.last sa sb fun x hx y hy => last x (List.mem_of_mem_drop hx) y ?_
    have e : a.toList[i]? = some a.toList[i] := List.getElem?_eq_getElem (by omega)
    rw [drop_at e, List.drop_eq_nil_of_le (by omega)] at hy
    rw [List.mem_singleton.mp hy, show a.size - 1 = i by omega, ← Array.getElem?_toList]
    exact e
  have stepB : ∀ out i j x y, Mi (Le rk) a.toList b.toList (Array.toList out) i j → a[i]? = some x → b[j]? = some y → rk y ≤ rk x → Mi (Le rk) a.toList b.toList (Array.toList (out.push y)) i (j + 1) := fun out i j x y m hx hy le => by
    rw [Array.toList_push]
    exact m.pushB (fun _ => Nat.le_refl _) sb (at_list hy) fun z hz => Nat.le_trans le (srt_head (fun _ => Nat.le_refl _) sa (at_list hx) z hz)
  have stepA : ∀ out i j x y, Mi (Le rk) a.toList b.toList (Array.toList out) i j → a[i]? = some x → b[j]? = some y → rk x ≤ rk y → Mi (Le rk) a.toList b.toList (Array.toList (out.push x)) (i + 1) j := fun out i j x y m hx hy le => by
    rw [Array.toList_push]
    exact m.pushA (fun _ => Nat.le_refl _) sa (at_list hx) fun z hz => Nat.le_trans le (srt_head (fun _ => Nat.le_refl _) sb (at_list hy) z hz)
  refine wpS_bind (wpS_lift (wpAny_rule ⟨rfl, ?_⟩))
  obtain ⟨b0, eb0, mb0⟩ := ib.at (show 0 < b.size by omega)
  refine wpS_bind (elem_of eb0 ?_)
  have m0 : Mi (Le rk) a.toList b.toList (Array.toList #[b0]) 0 1 := by
    have e : b.toList[0]? = some b0 := at_list eb0
    have n : Mi (Le rk) a.toList b.toList [] 0 0 := ⟨List.Perm.refl _, List.Pairwise.nil, (fun x h => by cases h), (fun x h => by cases h)⟩
    exact n.pushB (fun _ => Nat.le_refl _) sb e fun y hy => first b0 eb0 y hy
  refine hv (hv (hv ?_))
  by_cases z1 : 1 = b.size
  · rw [if_pos (by simpa using z1)]
    exact wpS_pure (doneB _ _ _ _ m0 (Like.refl st) (by omega))
  rw [if_neg (by simpa using z1)]
  by_cases z2 : 0 + 1 = a.size
  · rw [if_pos (by simpa using z2)]
    exact wpS_pure (lastA _ _ _ _ m0 (Like.refl st) z2)
  rw [if_neg (by simpa using z2)]
  refine wpS_bind (wpS_get ?_)
  refine wpS_bind (wpS_mono (wpS_forRange (I := fun x c t => ∃ out i j g, c = (none, out, i, j, g) ∧ Mi (Le rk) a.toList b.toList (Array.toList out) i j ∧ i + 1 < a.size ∧ j < b.size ∧ x ≤ i + j ∧ Like st t)
    (Q := fun c t => ∃ r, c.1 = some r ∧ MQ rk a b st r t) ?step ?fin ⟨_, _, _, _, rfl, m0, by omega, by omega, by omega, Like.refl st⟩) ?post)
  case post =>
    rintro c t ⟨r, hr, q⟩
    obtain ⟨c1, c2⟩ := c
    cases hr
    exact wpS_pure q
  case fin =>
    rintro c t ⟨out, i, j, g, rfl, m, h1, h2, h3, l⟩
    omega
  case step =>
    rintro x c t _ xn ⟨out, i, j, g, rfl, m, h1, h2, h3, l⟩
    refine wpS_bind (wpS_mono (wpS_forRange (I := fun y c t' => ∃ out' i' j' p q, c = (none, out', i', j', p, q) ∧ t' = t ∧ Mi (Le rk) a.toList b.toList (Array.toList out') i' j' ∧ i' + 1 < a.size ∧ j' < b.size ∧ i' + j' = i + j + y)
      (Q := fun c t' => (∃ r, c.1 = some r ∧ MQ rk a b st r t') ∨ (∃ out' i' j' p q, c = (none, out', i', j', p, q) ∧ t' = t ∧ Mi (Le rk) a.toList b.toList (Array.toList out') i' j' ∧ i' + 1 < a.size ∧ j' < b.size ∧ x + 1 ≤ i' + j')) ?step2 ?fin2 ⟨_, _, _, _, _, rfl, rfl, m, h1, h2, rfl⟩) ?post2)
    case fin2 =>
      rintro c t' ⟨out', i', j', p, q, rfl, rfl, m', k1, k2, k3⟩
      omega
    case step2 =>
      rintro y c t' _ yn ⟨out', i', j', p, q, rfl, rfl, m', k1, k2, k3⟩
      obtain ⟨u, eu, mu⟩ := ia.at (show i' < a.size by omega)
      obtain ⟨v, ev, mv⟩ := ib.at k2
      refine wpS_bind (elem_of ev (wpS_bind (elem_of eu (wpS_bind (lt_of C (l.kind.trans hk) mv mu ?_)))))
      by_cases d : rk v < rk u
      · rw [decide_eq_true d]
        dsimp only
        rw [if_pos rfl]
        have m2 := stepB out' i' j' u v m' eu ev (Nat.le_of_lt d)
        refine wpS_bind (elem_of ev ?_)
        by_cases z : j' + 1 = b.size
        · rw [if_pos (by simpa using z)]
          exact wpS_pure (.inl ⟨_, rfl, doneB _ _ _ _ m2 l (by omega)⟩)
        · rw [if_neg (by simpa using z)]
          split
          · exact wpS_pure (.inr ⟨_, _, _, _, _, rfl, rfl, m2, k1, by omega, by omega⟩)
          · exact wpS_pure ⟨_, _, _, _, _, rfl, rfl, m2, k1, by omega, by omega⟩
      · rw [decide_eq_false d]
        dsimp only
        rw [if_neg (by decide)]
        have m2 := stepA out' i' j' u v m' eu ev (by omega)
        refine wpS_bind (elem_of eu ?_)
        by_cases z : i' + 1 + 1 = a.size
        · rw [if_pos (by simpa using z)]
          exact wpS_pure (.inl ⟨_, rfl, lastA _ _ _ _ m2 l z⟩)
        · rw [if_neg (by simpa using z)]
          split
          · exact wpS_pure (.inr ⟨_, _, _, _, _, rfl, rfl, m2, by omega, k2, by omega⟩)
          · exact wpS_pure ⟨_, _, _, _, _, rfl, rfl, m2, by omega, k2, by omega⟩
    case post2 =>
      rintro c t' (⟨r, hr, q⟩ | ⟨out', i', j', p, q, rfl, rfl, m', k1, k2, k3⟩)
      · obtain ⟨c1, c2⟩ := c
        cases hr
        exact wpS_pure ⟨r, rfl, q⟩
      · refine wpS_bind (wpS_lift (wpAny_rule ⟨rfl, ?_⟩))
        refine wpS_bind (wpS_mono (wpS_forRange (I := fun y c t2 => ∃ out2 i2 j2 g2 p q, c = (none, out2, i2, j2, g2, p, q) ∧ Like st t2 ∧ Mi (Le rk) a.toList b.toList (Array.toList out2) i2 j2 ∧ i2 + 1 < a.size ∧ j2 < b.size ∧ x + 1 ≤ i2 + j2)
          (Q := fun c t2 => (∃ r, c.1 = some r ∧ MQ rk a b st r t2) ∨ (∃ out2 i2 j2 g2 p q, c = (none, out2, i2, j2, g2, p, q) ∧ Like st t2 ∧ Mi (Le rk) a.toList b.toList (Array.toList out2) i2 j2 ∧ i2 + 1 < a.size ∧ j2 < b.size ∧ x + 1 ≤ i2 + j2)) ?step3 ?fin3 ⟨_, _, _, _, _, _, rfl, l, m', k1, k2, k3⟩) ?post3)
        case fin3 =>
          rintro c t2 h
          exact .inr h
        case post3 =>
          rintro c t2 (⟨r, hr, q⟩ | ⟨out2, i2, j2, g2, p, q, rfl, l2, m2, n1, n2, n3⟩)
          · obtain ⟨c1, c2⟩ := c
            cases hr
            exact wpS_pure ⟨r, rfl, q⟩
          · refine wpS_bind (setG ?_)
            exact wpS_pure ⟨_, _, _, _, rfl, m2, n1, n2, n3, l2.gal _⟩
        case step3 =>
          rintro y c t2 _ yn ⟨out2, i2, j2, g2, p, q, rfl, l2, m2, n1, n2, n3⟩
          obtain ⟨v, ev, mv⟩ := ib.at n2
          refine wIte (fun _ => ?_) (fun _ => ?_)
          all_goals
            refine wpS_bind (setL l2 fun t3 l3 => ?_)
            refine wpS_bind (elem_of ev ?_)
            refine wpS_bind (gal_of (base := i2) (n := a.size - i2) (hint := 0) C (l3.kind.trans hk) ia mv (show i2 + (a.size - i2) ≤ a.size by omega) (by omega) (fun x y h1 h2 h3 => ua x y (by omega) h2 (by omega)) fun k kn ka kb => ?_)
            have mA : ∀ k', k' ≤ k → Mi (Le rk) a.toList b.toList (Array.toList (out2 ++ a.extract i2 (i2 + k'))) (i2 + k') j2 := fun k' hk' => by
              rw [Array.toList_append, ext_seg]
              refine m2.manyA (fun _ => Nat.le_refl _) sa k' (by omega) fun n x hn hx z hz => ?_
              have h := ka n (by omega)
              unfold bey at h
              rw [if_neg (by decide), R_at (p := x) (by rw [← Array.getElem?_toList]; exact hx)] at h
              have hle : rk x ≤ rk v := by simpa using h
              exact Nat.le_trans hle (srt_head (fun _ => Nat.le_refl _) sb (at_list ev) z hz)
            have gB : i2 + k < a.size → rk v < R rk a (i2 + k) := fun h => by
              have h := kb k (Nat.le_refl _) (by omega)
              unfold bey at h
              rw [if_neg (by decide)] at h
              simpa using h
            have m3 := mA k (Nat.le_refl _)
            refine wIte (fun kz => ?_) (fun kz => ?_)
            refine wIte (fun z => wpS_pure (.inl ⟨_, rfl, lastA _ _ _ _ m3 l3 (beqT z)⟩)) (fun z1 => ?_)
            refine wIte (fun z => wpS_pure (.inl ⟨_, rfl, doneA _ _ _ _ m3 l3 (Nat.le_of_eq (beqT z).symm)⟩)) (fun z2 => ?_)
            have z1 : ¬ i2 + k + 1 = a.size := beqF z1
            have z2 : ¬ i2 + k = a.size := beqF z2
            have f1 : i2 + k + 1 < a.size := by omega
            have f2 : x + 1 ≤ i2 + k + j2 := by omega
            have f3 := gB (by omega)
            generalize out2 ++ a.extract i2 (i2 + k) = out3 at m3 ⊢
            generalize i2 + k = i3 at m3 f1 f2 f3 ⊢
            rotate_left
            have k0 : k = 0 := by omega
            subst k0
            have e0 : out2 ++ a.extract i2 (i2 + 0) = out2 := by simp <;> omega
            rw [e0, Nat.add_zero] at m3
            have f1 : i2 + 1 < a.size := by omega
            have f2 : x + 1 ≤ i2 + j2 := by omega
            have f3 := gB (by omega)
            rw [Nat.add_zero] at f3
            clear e0
            generalize out2 = out3 at m3 ⊢
            generalize i2 = i3 at m3 f1 f2 f3 ⊢
            rotate_left
            all_goals
              obtain ⟨u3, eu3, mu3⟩ := ia.at (show i3 < a.size by omega)
              rw [R_at eu3] at f3
              refine wpS_bind (elem_of ev ?_)
              have m4 := stepB out3 i3 j2 u3 v m3 eu3 ev (Nat.le_of_lt f3)
              refine wIte (fun z => wpS_pure (.inl ⟨_, rfl, doneB _ _ _ _ m4 l3 (Nat.le_of_eq (beqT z).symm)⟩)) (fun z3 => ?_)
              have z3 : ¬ j2 + 1 = b.size := beqF z3
              refine wpS_bind (elem_of eu3 ?_)
              refine wpS_bind (gal_of (base := j2 + 1) (n := b.size - (j2 + 1)) (hint := 0) C (l3.kind.trans hk) ib mu3 (show j2 + 1 + (b.size - (j2 + 1)) ≤ b.size by omega) (by omega) (fun x y h1 h2 h3 => ub x y (by omega) h2 (by omega)) fun k' kn' ka' kb' => ?_)
              have m5 : Mi (Le rk) a.toList b.toList (Array.toList (out3.push v ++ b.extract (j2 + 1) (j2 + 1 + k'))) i3 (j2 + 1 + k') := by
                rw [Array.toList_append, ext_seg]
                refine m4.manyB (fun _ => Nat.le_refl _) sb k' (by omega) fun n x hn hx z hz => ?_
                have h := ka' n hn
                unfold bey at h
                rw [if_pos rfl, R_at (p := x) (by rw [← Array.getElem?_toList]; exact hx)] at h
                have hle : rk x < rk u3 := by simpa using h
                exact Nat.le_trans (Nat.le_of_lt hle) (srt_head (fun _ => Nat.le_refl _) sa (at_list eu3) z hz)
              have gA : j2 + 1 + k' < b.size → rk u3 ≤ R rk b (j2 + 1 + k') := fun h => by
                have h := kb' k' (Nat.le_refl _) (by omega)
                unfold bey at h
                rw [if_pos rfl] at h
                simpa using h
              refine wIte (fun kz' => ?_) (fun kz' => ?_)
              refine wIte (fun z => wpS_pure (.inl ⟨_, rfl, doneB _ _ _ _ m5 l3 (Nat.le_of_eq (beqT z).symm)⟩)) (fun z4 => ?_)
              have z4 : ¬ j2 + 1 + k' = b.size := beqF z4
              have f4 : j2 + 1 + k' < b.size := by omega
              have f5 : x + 1 ≤ i3 + (j2 + 1 + k') := by omega
              have f6 := gA f4
              generalize out3.push v ++ b.extract (j2 + 1) (j2 + 1 + k') = out4 at m5 ⊢
              generalize j2 + 1 + k' = j4 at m5 f4 f5 f6 ⊢
              rotate_left
              have k0 : k' = 0 := by omega
              subst k0
              have e0 : out3.push v ++ b.extract (j2 + 1) (j2 + 1 + 0) = out3.push v := by simp <;> omega
              rw [e0, Nat.add_zero] at m5
              have f4 : j2 + 1 < b.size := by omega
              have f5 : x + 1 ≤ i3 + (j2 + 1) := by omega
              have f6 := gA (by omega)
              rw [Nat.add_zero] at f6
              clear e0
              generalize out3.push v = out4 at m5 ⊢
              generalize j2 + 1 = j4 at m5 f4 f5 f6 ⊢
              rotate_left
              all_goals
                obtain ⟨v4, ev4, mv4⟩ := ib.at f4
                rw [R_at ev4] at f6
                have m6 := stepA out4 i3 j4 u3 v4 m5 eu3 ev4 f6
                refine wpS_bind (elem_of eu3 ?_)
                refine wIte (fun z => wpS_pure (.inl ⟨_, rfl, lastA _ _ _ _ m6 l3 (beqT z)⟩)) (fun z5 => ?_)
                have z5 : ¬ i3 + 1 + 1 = a.size := beqF z5
                refine wIte (fun _ => ?_) (fun _ => ?_)
                · exact wpS_pure (.inr ⟨out4.push u3, i3 + 1, j4, _, _, _, rfl, l3, m6, by omega, f4, by omega⟩)
                · exact wpS_pure ⟨out4.push u3, i3 + 1, j4, _, _, _, rfl, l3, m6, by omega, f4, by omega⟩
end
end TS
namespace TS
open PySem PyProof.Rows
def mHi : Array Keyed → Array Keyed → StateT SortSt Sem (Array Keyed) := sortPriv% PySem.Builtin.mergeHi
def Ge (rk : Keyed → Nat) (x y : Keyed) : Prop := rk y ≤ rk x
theorem srt_rev {rk : Keyed → Nat} {l : List Keyed} (h : Srt (Le rk) l) : Srt (Ge rk) l.reverse := List.pairwise_reverse.mpr h
theorem mg_rev {rk : Keyed → Nat} {a b r : List Keyed} (h : Mg (Ge rk) b.reverse a.reverse r.reverse) : Mg (Le rk) a b r := by
  obtain ⟨p, u⟩ := h
  refine ⟨?_, List.pairwise_reverse.mp u⟩
  have e : b.reverse ++ a.reverse = (a ++ b).reverse := by rw [List.reverse_append]
  rw [e] at p
  exact (List.reverse_perm r).symm.trans (p.trans (List.reverse_perm _))
theorem drop_rev {l : List Keyed} {n : Nat} (h : n ≤ l.length) : l.reverse.drop (l.length - n) = (l.take n).reverse := by
  rw [List.drop_reverse]; congr 2; omega
theorem get_rev {l : List Keyed} {n : Nat} {x : Keyed} (h1 : 1 ≤ n) (h : l[n - 1]? = some x) : l.reverse[l.length - n]? = some x := by
  have hl := (List.getElem?_eq_some_iff.mp h).1
  rw [List.getElem?_reverse (by omega), ← h]
  congr 1
  omega
theorem seg_rev {l : List Keyed} {m n : Nat} (h1 : m ≤ n) (h : n ≤ l.length) : (l.reverse.take (l.length - n + (n - m))).drop (l.length - n) = ((l.take n).drop m).reverse := by
  rw [List.drop_take, drop_rev h, Nat.add_sub_cancel_left, List.take_reverse, List.length_take]
  congr 2
  omega
theorem take_le {rk : Keyed → Nat} {l : List Keyed} {n : Nat} {x : Keyed} (s : Srt (Le rk) l) (h1 : 1 ≤ n) (h : l[n - 1]? = some x) : ∀ y ∈ l.take n, rk y ≤ rk x := fun y hy => by
  obtain ⟨hl, e⟩ := List.getElem?_eq_some_iff.mp h
  obtain ⟨i, hi⟩ := List.mem_iff_getElem?.mp hy
  have hil := (List.getElem?_eq_some_iff.mp hi).1
  rw [List.length_take] at hil
  rw [List.getElem?_take_of_lt (by omega), List.getElem?_eq_getElem (by omega)] at hi
  have ey := Option.some.inj hi
  rcases Nat.lt_or_eq_of_le (show i ≤ n - 1 by omega) with z | z
  · have := List.pairwise_iff_getElem.mp s i (n - 1) (by omega) hl z
    rw [ey, e] at this; exact this
  · subst z
    rw [← ey, e]; exact Nat.le_refl _
section
variable {prog : Program} {w : World} {A : Around} {E : Value → Shared → Prop} {s : Shared}
variable {rk : Keyed → Nat} {a0 : Array Keyed} {κ : SortKind}
def Mh (rk : Keyed → Nat) (a b out : Array Keyed) (na nb : Nat) : Prop := na ≤ a.size ∧ nb ≤ b.size ∧ Mi (Ge rk) b.toList.reverse a.toList.reverse out.toList (b.size - nb) (a.size - na)
theorem Mh.pushB {a b out : Array Keyed} {na nb : Nat} {x : Keyed} (h : Mh rk a b out na nb) (sb : Srt (Le rk) b.toList) (n1 : 1 ≤ nb) (hx : b[nb - 1]? = some x) (ha : ∀ y ∈ a.toList.take na, rk y ≤ rk x) : Mh rk a b (out.push x) na (nb - 1) := by
  obtain ⟨h1, h2, m⟩ := h
  refine ⟨h1, by omega, ?_⟩
  have lb : b.toList.length = b.size := Array.length_toList
  have la : a.toList.length = a.size := Array.length_toList
  rw [Array.toList_push, show b.size - (nb - 1) = b.size - nb + 1 by omega]
  refine m.pushA (fun _ => Nat.le_refl _) (srt_rev sb) ?_ fun y hy => ha y ?_
  · rw [← lb]; exact get_rev n1 (at_list hx)
  · rw [← la, drop_rev (by omega)] at hy; exact List.mem_reverse.mp hy
theorem Mh.pushA {a b out : Array Keyed} {na nb : Nat} {x : Keyed} (h : Mh rk a b out na nb) (sa : Srt (Le rk) a.toList) (n1 : 1 ≤ na) (hx : a[na - 1]? = some x) (hb : ∀ y ∈ b.toList.take nb, rk y ≤ rk x) : Mh rk a b (out.push x) (na - 1) nb := by
  obtain ⟨h1, h2, m⟩ := h
  refine ⟨by omega, h2, ?_⟩
  have lb : b.toList.length = b.size := Array.length_toList
  have la : a.toList.length = a.size := Array.length_toList
  rw [Array.toList_push, show a.size - (na - 1) = a.size - na + 1 by omega]
  refine m.pushB (fun _ => Nat.le_refl _) (srt_rev sa) ?_ fun y hy => hb y ?_
  · rw [← la]; exact get_rev n1 (at_list hx)
  · rw [← lb, drop_rev (by omega)] at hy; exact List.mem_reverse.mp hy
theorem Mh.manyA {a b out : Array Keyed} {na nb m : Nat} (h : Mh rk a b out na nb) (sa : Srt (Le rk) a.toList) (hm : m ≤ na) (hc : ∀ n x, m ≤ n → n < na → a[n]? = some x → ∀ y ∈ b.toList.take nb, rk y ≤ rk x) : Mh rk a b (out ++ (a.extract m na).reverse) m nb := by
  obtain ⟨h1, h2, mi⟩ := h
  refine ⟨by omega, h2, ?_⟩
  have lb : b.toList.length = b.size := Array.length_toList
  have la : a.toList.length = a.size := Array.length_toList
  have := mi.manyB (fun _ => Nat.le_refl _) (srt_rev sa) (na - m) (by rw [List.length_reverse]; omega) fun n x hn hx y hy => hc (na - 1 - n) x (by omega) (by omega) ?_ y ?_
  · rw [← la, seg_rev hm (by omega), ← ext_seg, la, show a.size - na + (na - m) = a.size - m by omega] at this
    rw [Array.toList_append, Array.toList_reverse]
    exact this
  · rw [List.getElem?_reverse (by omega)] at hx
    rw [← Array.getElem?_toList, ← hx]
    congr 1
    omega
  · rw [← lb, drop_rev (by omega)] at hy; exact List.mem_reverse.mp hy
theorem Mh.manyB {a b out : Array Keyed} {na nb m : Nat} (h : Mh rk a b out na nb) (sb : Srt (Le rk) b.toList) (hm : m ≤ nb) (hc : ∀ n x, m ≤ n → n < nb → b[n]? = some x → ∀ y ∈ a.toList.take na, rk y ≤ rk x) : Mh rk a b (out ++ (b.extract m nb).reverse) na m := by
  obtain ⟨h1, h2, mi⟩ := h
  refine ⟨h1, by omega, ?_⟩
  have lb : b.toList.length = b.size := Array.length_toList
  have la : a.toList.length = a.size := Array.length_toList
  have := mi.manyA (fun _ => Nat.le_refl _) (srt_rev sb) (nb - m) (by rw [List.length_reverse]; omega) fun n x hn hx y hy => hc (nb - 1 - n) x (by omega) (by omega) ?_ y ?_
  · rw [← lb, seg_rev hm (by omega), ← ext_seg, lb, show b.size - nb + (nb - m) = b.size - m by omega] at this
    rw [Array.toList_append, Array.toList_reverse]
    exact this
  · rw [List.getElem?_reverse (by omega)] at hx
    rw [← Array.getElem?_toList, ← hx]
    congr 1
    omega
  · rw [← la, drop_rev (by omega)] at hy; exact List.mem_reverse.mp hy
theorem ext_head (xs : Array Keyed) (j : Nat) : (xs.extract 0 j).toList = xs.toList.take j := by rw [ext_seg, List.drop_zero]
theorem Mh.done {a b out : Array Keyed} {na nb : Nat} (h : Mh rk a b out na nb) (sa : Srt (Le rk) a.toList) (sb : Srt (Le rk) b.toList) (z : na = 0 ∨ nb = 0) : Mg (Le rk) a.toList b.toList (a.extract 0 na ++ b.extract 0 nb ++ out.reverse).toList := by
  obtain ⟨h1, h2, m⟩ := h
  have lb : b.toList.length = b.size := Array.length_toList
  have la : a.toList.length = a.size := Array.length_toList
  refine mg_rev ?_
  have e : (a.extract 0 na ++ b.extract 0 nb ++ out.reverse).toList.reverse = out.toList ++ b.toList.reverse.drop (b.size - nb) ++ a.toList.reverse.drop (a.size - na) := by
    rw [Array.toList_append, Array.toList_append, Array.toList_reverse, ext_head, ext_head, List.reverse_append, List.reverse_append, List.reverse_reverse, ← la, ← lb, drop_rev (by omega), drop_rev (by omega), List.append_assoc]
  rw [e]
  rcases z with z | z
  · exact m.doneB (srt_rev sb) (by rw [List.length_reverse]; omega)
  · exact m.doneA (srt_rev sa) (by rw [List.length_reverse]; omega)
theorem Mh.first {a b out : Array Keyed} {na nb : Nat} (h : Mh rk a b out na nb) (sa : Srt (Le rk) a.toList) (sb : Srt (Le rk) b.toList) (lo : ∀ x ∈ a.toList.take na, ∀ y ∈ b.toList.take nb, rk y ≤ rk x) : Mg (Le rk) a.toList b.toList (b.extract 0 nb ++ a.extract 0 na ++ out.reverse).toList := by
  obtain ⟨h1, h2, m⟩ := h
  have lb : b.toList.length = b.size := Array.length_toList
  have la : a.toList.length = a.size := Array.length_toList
  refine mg_rev ?_
  have e : (b.extract 0 nb ++ a.extract 0 na ++ out.reverse).toList.reverse = out.toList ++ a.toList.reverse.drop (a.size - na) ++ b.toList.reverse.drop (b.size - nb) := by
    rw [Array.toList_append, Array.toList_append, Array.toList_reverse, ext_head, ext_head, List.reverse_append, List.reverse_append, List.reverse_reverse, ← la, ← lb, drop_rev (by omega), drop_rev (by omega), List.append_assoc]
  rw [e]
  refine m.last (srt_rev sb) (srt_rev sa) fun x hx y hy => ?_
  rw [← la, drop_rev (by omega)] at hx
  rw [← lb, drop_rev (by omega)] at hy
  exact lo x (List.mem_reverse.mp hx) y (List.mem_reverse.mp hy)
theorem mHi_of {st : SortSt} {a b : Array Keyed} (C : Cm prog w A s κ rk a0) (hk : kindOf st = κ) (ia : In0 a0 a) (ib : In0 a0 b) (a1 : 1 ≤ a.size) (b1 : 1 ≤ b.size) (sa : Srt (Le rk) a.toList) (sb : Srt (Le rk) b.toList)
    (first : ∀ x, b[0]? = some x → ∀ y ∈ a.toList, Le rk x y) (last : ∀ x ∈ b.toList, ∀ y, a[a.size - 1]? = some y → Le rk x y) : wpS (model prog w) A E s (mHi a b) (MQ rk a b st) st := by
  have la : a.toList.length = a.size := Array.length_toList
  have lb : b.toList.length = b.size := Array.length_toList
  have ua := up_of_srt sa
  have ub := up_of_srt sb
  refine wpS_bind (wpS_lift (wpAny_rule ⟨rfl, ?_⟩))
  obtain ⟨x0, ex0, mx0⟩ := ia.at (show a.size - 1 < a.size by omega)
  refine wpS_bind (elem_of ex0 ?_)
  have doneM : ∀ out na nb t, Mh rk a b out na nb → Like st t → na = 0 ∨ nb = 0 → MQ rk a b st (a.extract 0 na ++ b.extract 0 nb ++ Array.reverse out) t := fun out na nb t m l z => ⟨m.done sa sb z, l⟩
  have firstM : ∀ out na nb t, Mh rk a b out na nb → Like st t → nb = 1 → MQ rk a b st (b.extract 0 nb ++ a.extract 0 na ++ Array.reverse out) t := fun out na nb t m l z => by
    refine ⟨m.first sa sb fun x hx y hy => ?_, l⟩
    subst z
    obtain ⟨b0, eb0, mb0⟩ := ib.at (show 0 < b.size by omega)
    have := take_le sb (Nat.le_refl 1) (at_list eb0) y hy
    exact Nat.le_trans this (first b0 eb0 x (List.mem_of_mem_take hx))
  have stepA : ∀ out na nb x y, Mh rk a b out na nb → 1 ≤ na → 1 ≤ nb → a[na - 1]? = some x → b[nb - 1]? = some y → rk y ≤ rk x → Mh rk a b (out.push x) (na - 1) nb := fun out na nb x y m h1 h2 hx hy le =>
    m.pushA sa h1 hx fun z hz => Nat.le_trans (take_le sb h2 (at_list hy) z hz) le
  have stepB : ∀ out na nb x y, Mh rk a b out na nb → 1 ≤ na → 1 ≤ nb → a[na - 1]? = some x → b[nb - 1]? = some y → rk x ≤ rk y → Mh rk a b (out.push y) na (nb - 1) := fun out na nb x y m h1 h2 hx hy le =>
    m.pushB sb h2 hy fun z hz => Nat.le_trans (take_le sa h1 (at_list hx) z hz) le
  have m0 : Mh rk a b #[x0] (a.size - 1) b.size := by
    have n : Mh rk a b #[] a.size b.size := ⟨Nat.le_refl _, Nat.le_refl _, by rw [Nat.sub_self, Nat.sub_self]; exact ⟨List.Perm.refl _, List.Pairwise.nil, (fun x h => by cases h), (fun x h => by cases h)⟩⟩
    exact n.pushA sa a1 ex0 fun y hy => last y (List.mem_of_mem_take hy) x0 ex0
  refine wIte (fun z => wpS_pure (doneM _ _ _ _ m0 (Like.refl st) (.inl (beqT z)))) (fun z1 => ?_)
  have z1 : ¬ a.size - 1 = 0 := beqF z1
  refine wIte (fun z => wpS_pure (firstM _ _ _ _ m0 (Like.refl st) (beqT z))) (fun z2 => ?_)
  have z2 : ¬ b.size = 1 := beqF z2
  refine wpS_bind (wpS_get ?_)
  refine wpS_bind (wpS_mono (wpS_forRange (I := fun x c t => ∃ na nb out g, c = (none, na, nb, out, g) ∧ Mh rk a b out na nb ∧ 1 ≤ na ∧ 2 ≤ nb ∧ x + na + nb ≤ a.size + b.size ∧ Like st t)
    (Q := fun c t => ∃ r, c.1 = some r ∧ MQ rk a b st r t) ?step ?fin ⟨_, _, _, _, rfl, m0, by omega, by omega, by omega, Like.refl st⟩) ?post)
  case post =>
    rintro c t ⟨r, hr, q⟩
    obtain ⟨c1, c2⟩ := c
    cases hr
    exact wpS_pure q
  case fin =>
    rintro c t ⟨na, nb, out, g, rfl, m, h1, h2, h3, l⟩
    omega
  case step =>
    rintro x c t _ xn ⟨na, nb, out, g, rfl, m, h1, h2, h3, l⟩
    refine wpS_bind (wpS_mono (wpS_forRange (I := fun y c t' => ∃ na' nb' out' p q, c = (none, na', nb', out', p, q) ∧ t' = t ∧ Mh rk a b out' na' nb' ∧ 1 ≤ na' ∧ 2 ≤ nb' ∧ na' + nb' + y = na + nb)
      (Q := fun c t' => (∃ r, c.1 = some r ∧ MQ rk a b st r t') ∨ (∃ na' nb' out' p q, c = (none, na', nb', out', p, q) ∧ t' = t ∧ Mh rk a b out' na' nb' ∧ 1 ≤ na' ∧ 2 ≤ nb' ∧ x + 1 + na' + nb' ≤ a.size + b.size)) ?step2 ?fin2 ⟨_, _, _, _, _, rfl, rfl, m, h1, h2, rfl⟩) ?post2)
    case fin2 =>
      rintro c t' ⟨na', nb', out', p, q, rfl, rfl, m', k1, k2, k3⟩
      omega
    case step2 =>
      rintro y c t' _ yn ⟨na', nb', out', p, q, rfl, rfl, m', k1, k2, k3⟩
      obtain ⟨u, eu, mu⟩ := ia.at (show na' - 1 < a.size by have := m'.1; omega)
      obtain ⟨v, ev, mv⟩ := ib.at (show nb' - 1 < b.size by have := m'.2.1; omega)
      refine wpS_bind (elem_of ev (wpS_bind (elem_of eu (wpS_bind (lt_of C (l.kind.trans hk) mv mu ?_)))))
      by_cases d : rk v < rk u
      · rw [decide_eq_true d]
        refine wIte (fun _ => ?_) (fun h => absurd rfl h)
        have m2 := stepA out' na' nb' u v m' k1 (by omega) eu ev (Nat.le_of_lt d)
        refine wpS_bind (elem_of eu ?_)
        refine wIte (fun z => wpS_pure (.inl ⟨_, rfl, doneM _ _ _ _ m2 l (.inl (beqT z))⟩)) (fun z => ?_)
        have z : ¬ na' - 1 = 0 := beqF z
        refine wIte (fun _ => ?_) (fun _ => ?_)
        · exact wpS_pure (.inr ⟨na' - 1, nb', out'.push u, _, _, rfl, rfl, m2, by omega, k2, by omega⟩)
        · exact wpS_pure ⟨na' - 1, nb', out'.push u, _, _, rfl, rfl, m2, by omega, k2, by omega⟩
      · rw [decide_eq_false d]
        refine wIte (fun h => absurd h (by decide)) (fun _ => ?_)
        have m2 := stepB out' na' nb' u v m' k1 (by omega) eu ev (by omega)
        refine wpS_bind (elem_of ev ?_)
        refine wIte (fun z => wpS_pure (.inl ⟨_, rfl, firstM _ _ _ _ m2 l (beqT z)⟩)) (fun z => ?_)
        have z : ¬ nb' - 1 = 1 := beqF z
        refine wIte (fun _ => ?_) (fun _ => ?_)
        · exact wpS_pure (.inr ⟨na', nb' - 1, out'.push v, _, _, rfl, rfl, m2, k1, by omega, by omega⟩)
        · exact wpS_pure ⟨na', nb' - 1, out'.push v, _, _, rfl, rfl, m2, k1, by omega, by omega⟩
    case post2 =>
      rintro c t' (⟨r, hr, q⟩ | ⟨na', nb', out', p, q, rfl, rfl, m', k1, k2, k3⟩)
      · obtain ⟨c1, c2⟩ := c
        cases hr
        exact wpS_pure ⟨r, rfl, q⟩
      · refine wpS_bind (wpS_lift (wpAny_rule ⟨rfl, ?_⟩))
        refine wpS_bind (wpS_mono (wpS_forRange (I := fun y c t2 => ∃ na2 nb2 out2 g2 p q, c = (none, na2, nb2, out2, g2, p, q) ∧ Like st t2 ∧ Mh rk a b out2 na2 nb2 ∧ 1 ≤ na2 ∧ 2 ≤ nb2 ∧ x + 1 + na2 + nb2 ≤ a.size + b.size)
          (Q := fun c t2 => (∃ r, c.1 = some r ∧ MQ rk a b st r t2) ∨ (∃ na2 nb2 out2 g2 p q, c = (none, na2, nb2, out2, g2, p, q) ∧ Like st t2 ∧ Mh rk a b out2 na2 nb2 ∧ 1 ≤ na2 ∧ 2 ≤ nb2 ∧ x + 1 + na2 + nb2 ≤ a.size + b.size)) ?step3 ?fin3 ⟨_, _, _, _, _, _, rfl, l, m', k1, k2, k3⟩) ?post3)
        case fin3 =>
          rintro c t2 h
          exact .inr h
        case post3 =>
          rintro c t2 (⟨r, hr, q⟩ | ⟨na2, nb2, out2, g2, p, q, rfl, l2, m2, n1, n2, n3⟩)
          · obtain ⟨c1, c2⟩ := c
            cases hr
            exact wpS_pure ⟨r, rfl, q⟩
          · refine wpS_bind (setL l2 fun t3 l3 => ?_)
            exact wpS_pure ⟨_, _, _, _, rfl, m2, n1, n2, n3, l3⟩
        case step3 =>
          rintro y c t2 _ yn ⟨na2, nb2, out2, g2, p, q, rfl, l2, m2, n1, n2, n3⟩
          have q1 := m2.1
          have q2 := m2.2.1
          obtain ⟨v, ev, mv⟩ := ib.at (show nb2 - 1 < b.size by omega)
          refine wIte (fun _ => ?_) (fun _ => ?_)
          all_goals
            refine wpS_bind (setL l2 fun t3 l3 => ?_)
            refine wpS_bind (elem_of ev ?_)
            refine wpS_bind (gal_of (base := 0) (n := na2) (hint := na2 - 1) C (l3.kind.trans hk) ia mv (by omega) (by omega) (fun x y h1 h2 h3 => ua x y (by omega) h2 (by omega)) fun k kn ka kb => ?_)
            have m3 : Mh rk a b (out2 ++ (a.extract k na2).reverse) k nb2 := m2.manyA sa kn fun n x h1 h2 hx z hz => by
              have h := kb n h1 h2
              unfold bey at h
              rw [if_neg (by decide), Nat.zero_add, R_at hx] at h
              have hle : rk v < rk x := by simpa using h
              exact Nat.le_trans (take_le sb (by omega) (at_list ev) z hz) (Nat.le_of_lt hle)
            have gA : 1 ≤ k → R rk a (k - 1) ≤ rk v := fun h => by
              have h := ka (k - 1) (by omega)
              unfold bey at h
              rw [if_neg (by decide), Nat.zero_add] at h
              simpa using h
            refine wIte (fun kz => ?_) (fun kz => ?_)
            have kz : na2 - k > 0 := kz
            refine wIte (fun z => wpS_pure (.inl ⟨_, rfl, doneM _ _ _ _ m3 l3 (.inl (beqT z))⟩)) (fun z1 => ?_)
            have z1 : ¬ k = 0 := beqF z1
            have f1 : 1 ≤ k := by omega
            have f2 : x + 1 + k + nb2 ≤ a.size + b.size := by omega
            have f3 := gA f1
            generalize out2 ++ (a.extract k na2).reverse = out3 at m3 ⊢
            rotate_left
            have kz : ¬ na2 - k > 0 := kz
            have k0 : k = na2 := by omega
            have e0 : out2 ++ (a.extract k na2).reverse = out2 := by rw [k0]; simp <;> omega
            rw [e0] at m3
            have f1 : 1 ≤ k := by omega
            have f2 : x + 1 + k + nb2 ≤ a.size + b.size := by omega
            have f3 := gA f1
            clear e0
            subst k0
            generalize out2 = out3 at m3 ⊢
            rotate_left
            all_goals
              obtain ⟨u3, eu3, mu3⟩ := ia.at (show k - 1 < a.size by omega)
              rw [R_at eu3] at f3
              refine wpS_bind (elem_of ev ?_)
              have m4 := stepB out3 k nb2 u3 v m3 f1 (by omega) eu3 ev f3
              refine wIte (fun z => wpS_pure (.inl ⟨_, rfl, firstM _ _ _ _ m4 l3 (beqT z)⟩)) (fun z3 => ?_)
              have z3 : ¬ nb2 - 1 = 1 := beqF z3
              refine wpS_bind (elem_of eu3 ?_)
              refine wpS_bind (gal_of (base := 0) (n := nb2 - 1) (hint := nb2 - 1 - 1) C (l3.kind.trans hk) ib mu3 (by omega) (by omega) (fun x y h1 h2 h3 => ub x y (by omega) h2 (by omega)) fun k' kn' ka' kb' => ?_)
              have m5 : Mh rk a b (out3.push v ++ (b.extract k' (nb2 - 1)).reverse) k k' := m4.manyB sb kn' fun n x h1 h2 hx z hz => by
                have h := kb' n h1 h2
                unfold bey at h
                rw [if_pos rfl, Nat.zero_add, R_at hx] at h
                have hle : rk u3 ≤ rk x := by simpa using h
                exact Nat.le_trans (take_le sa f1 (at_list eu3) z hz) hle
              have gB : 1 ≤ k' → R rk b (k' - 1) < rk u3 := fun h => by
                have h := ka' (k' - 1) (by omega)
                unfold bey at h
                rw [if_pos rfl, Nat.zero_add] at h
                simpa using h
              refine wIte (fun kz' => ?_) (fun kz' => ?_)
              have kz' : nb2 - 1 - k' > 0 := kz'
              refine wIte (fun z => wpS_pure (.inl ⟨_, rfl, firstM _ _ _ _ m5 l3 (beqT z)⟩)) (fun z4 => ?_)
              have z4 : ¬ k' = 1 := beqF z4
              refine wIte (fun z => wpS_pure (.inl ⟨_, rfl, doneM _ _ _ _ m5 l3 (.inr (beqT z))⟩)) (fun z5 => ?_)
              have z5 : ¬ k' = 0 := beqF z5
              have f4 : 2 ≤ k' := by omega
              have f5 : x + 1 + k + k' ≤ a.size + b.size := by omega
              have f6 := gB (by omega)
              generalize out3.push v ++ (b.extract k' (nb2 - 1)).reverse = out4 at m5 ⊢
              rotate_left
              have kz' : ¬ nb2 - 1 - k' > 0 := kz'
              have k0' : k' = nb2 - 1 := by omega
              have e0 : out3.push v ++ (b.extract k' (nb2 - 1)).reverse = out3.push v := by rw [k0']; simp <;> omega
              rw [e0] at m5
              have f4 : 2 ≤ k' := by omega
              have f5 : x + 1 + k + k' ≤ a.size + b.size := by omega
              have f6 := gB (by omega)
              clear e0
              generalize out3.push v = out4 at m5 ⊢
              rotate_left
              all_goals
                have q3 := m5.2.1
                obtain ⟨v4, ev4, mv4⟩ := ib.at (show k' - 1 < b.size by omega)
                rw [R_at ev4] at f6
                have m6 := stepA out4 k k' u3 v4 m5 f1 (by omega) eu3 ev4 (Nat.le_of_lt f6)
                refine wpS_bind (elem_of eu3 ?_)
                first
                  | refine wIte (fun z => wpS_pure (.inl ⟨_, rfl, doneM _ _ _ _ m6 l3 (.inl (beqT z))⟩)) (fun z6 => ?_)
                  | (rw [k0'] at m6; refine wIte (fun z => wpS_pure (.inl ⟨_, rfl, doneM _ _ _ _ m6 l3 (.inl (beqT z))⟩)) (fun z6 => ?_))
                have z6 : ¬ k - 1 = 0 := beqF z6
                refine wIte (fun _ => ?_) (fun _ => ?_)
                · first
                    | exact wpS_pure (.inr ⟨k - 1, k', out4.push u3, _, _, _, rfl, l3, m6, by omega, f4, by omega⟩)
                    | exact wpS_pure (.inr ⟨k - 1, nb2 - 1, out4.push u3, _, _, _, rfl, l3, m6, by omega, by omega, by omega⟩)
                · first
                    | exact wpS_pure ⟨k - 1, k', out4.push u3, _, _, _, rfl, l3, m6, by omega, f4, by omega⟩
                    | exact wpS_pure ⟨k - 1, nb2 - 1, out4.push u3, _, _, _, rfl, l3, m6, by omega, by omega, by omega⟩
end
end TS
namespace TS
open PySem PyProof.Rows
section
variable {rk : Keyed → Nat}
def seg (xs : Array Keyed) (lo hi : Nat) : List Keyed := (xs.toList.take hi).drop lo
theorem seg_len {xs : Array Keyed} {lo hi : Nat} (h : hi ≤ xs.size) : (seg xs lo hi).length = hi - lo := by unfold seg; rw [List.length_drop, List.length_take]; simp; omega
theorem seg_get {xs : Array Keyed} {lo hi i : Nat} (hi' : lo + i < hi) : (seg xs lo hi)[i]? = xs[lo + i]? := by
  unfold seg
  rw [List.getElem?_drop, List.getElem?_take_of_lt hi', Array.getElem?_toList]
theorem srt_seg {xs : Array Keyed} {lo hi : Nat} (u : Up rk xs lo hi) (h : hi ≤ xs.size) : Srt (Le rk) (seg xs lo hi) := by
  refine List.pairwise_iff_getElem.mpr fun i j h1 h2 hij => ?_
  have l := seg_len (lo := lo) h
  have e1 : (seg xs lo hi)[i]? = some (seg xs lo hi)[i] := List.getElem?_eq_getElem h1
  have e2 : (seg xs lo hi)[j]? = some (seg xs lo hi)[j] := List.getElem?_eq_getElem h2
  rw [seg_get (by omega)] at e1 e2
  have := u (lo + i) (lo + j) (by omega) (by omega) (by omega)
  rw [R_at e1, R_at e2] at this
  exact this
theorem up_seg {xs : Array Keyed} {lo hi : Nat} (s : Srt (Le rk) (seg xs lo hi)) (h : hi ≤ xs.size) : Up rk xs lo hi := fun i j h1 h2 h3 => by
  have l := seg_len (lo := lo) h
  rcases Nat.lt_or_eq_of_le h2 with z | z
  · have := List.pairwise_iff_getElem.mp s (i - lo) (j - lo) (by omega) (by omega) (by omega)
    have e1 : (seg xs lo hi)[i - lo]? = some (seg xs lo hi)[i - lo] := List.getElem?_eq_getElem (by omega)
    have e2 : (seg xs lo hi)[j - lo]? = some (seg xs lo hi)[j - lo] := List.getElem?_eq_getElem (by omega)
    rw [seg_get (by omega), show lo + (i - lo) = i by omega] at e1
    rw [seg_get (by omega), show lo + (j - lo) = j by omega] at e2
    rw [R_at e1, R_at e2]
    exact this
  · rw [z]; exact Nat.le_refl _
theorem seg_mem {xs : Array Keyed} {lo hi : Nat} {x : Keyed} (h : hi ≤ xs.size) (hx : x ∈ seg xs lo hi) : ∃ i, lo ≤ i ∧ i < hi ∧ xs[i]? = some x := by
  obtain ⟨i, hi'⟩ := List.mem_iff_getElem?.mp hx
  have l := seg_len (lo := lo) h
  have := (List.getElem?_eq_some_iff.mp hi').1
  exact ⟨lo + i, by omega, by omega, by rw [← seg_get (hi := hi) (by omega)]; exact hi'⟩
theorem seg_app {xs : Array Keyed} {a b c : Nat} (h1 : a ≤ b) (h2 : b ≤ c) (h : c ≤ xs.size) : seg xs a b ++ seg xs b c = seg xs a c := by
  refine List.ext_getElem? fun i => ?_
  by_cases z : i < b - a
  · rw [List.getElem?_append_left (by rw [seg_len (by omega)]; omega), seg_get (by omega), seg_get (by omega)]
  · rw [List.getElem?_append_right (by rw [seg_len (by omega)]; omega), seg_len (by omega)]
    by_cases y : i < c - a
    · rw [seg_get (by omega), seg_get (by omega)]; congr 1; omega
    · rw [List.getElem?_eq_none (by rw [seg_len h]; omega), List.getElem?_eq_none (by rw [seg_len h]; omega)]
theorem seg_all (xs : Array Keyed) : seg xs 0 xs.size = xs.toList := by
  unfold seg; rw [List.drop_zero, List.take_of_length_le (by simp)]
def wr (p : Nat) (l : List (Keyed × Nat)) (xs : Array Keyed) : Array Keyed := l.foldl (fun a q => a.setIfInBounds (p + q.2) q.1) xs
theorem wr_size (p : Nat) : ∀ (l : List (Keyed × Nat)) (xs : Array Keyed), (wr p l xs).size = xs.size
  | [], xs => rfl
  | q :: l, xs => (wr_size p l _).trans (by simp)
theorem wr_get (p : Nat) : ∀ (m : List Keyed) (n : Nat) (xs : Array Keyed), p + n + m.length ≤ xs.size → ∀ k, (wr p (m.zipIdx n) xs)[k]? = if p + n ≤ k ∧ k < p + n + m.length then m[k - (p + n)]? else xs[k]?
  | [], n, xs, _, k => by
    show xs[k]? = _
    rw [if_neg (by simp)]
  | x :: m, n, xs, h, k => by
    rw [List.length_cons] at h ⊢
    show (wr p (m.zipIdx (n + 1)) (xs.setIfInBounds (p + n) x))[k]? = _
    rw [wr_get p m (n + 1) _ (by rw [Array.size_setIfInBounds]; omega) k, Array.getElem?_setIfInBounds]
    by_cases z : k = p + n
    · subst z
      rw [if_neg (by omega), if_pos rfl, if_pos (by omega), if_pos (by omega), Nat.sub_self]
      rfl
    · by_cases y : p + n ≤ k ∧ k < p + n + (m.length + 1)
      · rw [if_pos (by omega), if_pos y, show k - (p + n) = k - (p + (n + 1)) + 1 by omega]
        rfl
      · rw [if_neg (by omega), if_neg (by omega), if_neg y]
theorem wr_seg {m : List Keyed} {p : Nat} {xs : Array Keyed} (h : p + m.length ≤ xs.size) : seg (wr p m.zipIdx xs) p (p + m.length) = m := by
  refine List.ext_getElem? fun i => ?_
  by_cases z : i < m.length
  · rw [seg_get (by omega), wr_get p m 0 xs h, if_pos (by omega)]
    congr 1; omega
  · rw [List.getElem?_eq_none (by rw [seg_len (by rw [wr_size]; omega)]; omega), List.getElem?_eq_none (by omega)]
theorem wr_kept {m : List Keyed} {p : Nat} {xs : Array Keyed} (h : p + m.length ≤ xs.size) : Kept xs (wr p m.zipIdx xs) p (p + m.length) := fun k hk => by
  rw [wr_get p m 0 xs h, if_neg (by omega)]
theorem seg_kept {xs ys : Array Keyed} {lo hi a b : Nat} (hz : ys.size = xs.size) (k : Kept xs ys lo hi) (h : b ≤ lo ∨ hi ≤ a) (hb : b ≤ xs.size) : seg ys a b = seg xs a b := by
  refine List.ext_getElem? fun i => ?_
  by_cases z : a + i < b
  · rw [seg_get z, seg_get z]; exact k _ (by omega)
  · rw [List.getElem?_eq_none (by rw [seg_len (by omega)]; omega), List.getElem?_eq_none (by rw [seg_len hb]; omega)]
theorem wr_perm {m : List Keyed} {p : Nat} {xs : Array Keyed} (h : p + m.length ≤ xs.size) (pm : m.Perm (seg xs p (p + m.length))) : (wr p m.zipIdx xs).Perm xs := by
  rw [Array.perm_iff_toList_perm, ← seg_all xs, ← seg_all (wr p m.zipIdx xs), wr_size]
  have hk := wr_kept h
  have hs := wr_size p m.zipIdx xs
  rw [← seg_app (Nat.zero_le p) (show p ≤ xs.size by omega) (Nat.le_refl _), ← seg_app (show p ≤ p + m.length by omega) (show p + m.length ≤ xs.size by omega) (Nat.le_refl _)]
  rw [← seg_app (xs := wr p m.zipIdx xs) (Nat.zero_le p) (show p ≤ xs.size by omega) (by omega), ← seg_app (xs := wr p m.zipIdx xs) (show p ≤ p + m.length by omega) (show p + m.length ≤ xs.size by omega) (by omega)]
  rw [seg_kept hs hk (.inl (Nat.le_refl _)) (by omega), seg_kept hs hk (.inr (Nat.le_refl _)) (Nat.le_refl _), wr_seg h]
  exact List.Perm.append_left _ (pm.append_right _)
end
end TS
namespace TS
open PySem PyProof.Rows
section
variable {prog : Program} {w : World} {A : Around} {E : Value → Shared → Prop} {s : Shared}
variable {rk : Keyed → Nat} {a0 : Array Keyed} {κ : SortKind}
theorem in0_seg {st : SortSt} (B : Bs a0 κ st) (lo hi : Nat) : In0 a0 ((arrOf st).extract lo hi) := fun x hx => by
  rw [ext_seg] at hx
  exact (Array.perm_iff_toList_perm.mp B.perm).mem_iff.mp (List.mem_of_mem_take (List.mem_of_mem_drop hx))
theorem in0_all {st : SortSt} (B : Bs a0 κ st) : In0 a0 (arrOf st) := fun x hx => (Array.perm_iff_toList_perm.mp B.perm).mem_iff.mp hx
theorem ext_get {xs : Array Keyed} {lo hi i : Nat} (h : lo + i < hi) : (xs.extract lo hi)[i]? = xs[lo + i]? := by
  rw [← Array.getElem?_toList, ext_seg]; exact seg_get h
theorem mAt_of {st : SortSt} {i sa na nb pw pw2 : Nat} {Q : Bool → SortSt → Prop} (C : Cm prog w A s κ rk a0) (B : Bs a0 κ st) (e1 : (pendingOf st)[i]? = some (sa, na, pw)) (e2 : (pendingOf st)[i + 1]? = some (sa + na, nb, pw2)) (n1 : 1 ≤ na) (n2 : 1 ≤ nb)
    (hz : sa + na + nb ≤ a0.size) (u1 : Up rk (arrOf st) sa (sa + na)) (u2 : Up rk (arrOf st) (sa + na) (sa + na + nb))
    (h : ∀ t, Bs a0 κ t → Up rk (arrOf t) sa (sa + na + nb) → Kept (arrOf st) (arrOf t) sa (sa + na + nb) → pendingOf t = ((pendingOf st).setIfInBounds i (sa, na + nb, pw)).eraseIdxIfInBounds (i + 1) → Q true t) :
    wpS (model prog w) A E s (mergeAt' i) Q st := by
  have hs := B.size
  refine wpS_bind (wpS_get ?_)
  rw [show (sortPriv% PySem.Builtin.SortState.pending) st = pendingOf st from rfl, e1, e2]
  refine wpS_bind (wpS_modify (f := fun _ => setPending st (((pendingOf st).setIfInBounds i (sa, na + nb, pw)).eraseIdxIfInBounds (i + 1))) ?_)
  obtain ⟨pd, hpd⟩ : ∃ pd, pd = ((pendingOf st).setIfInBounds i (sa, na + nb, pw)).eraseIdxIfInBounds (i + 1) := ⟨_, rfl⟩
  rw [← hpd] at h ⊢
  have B1 : Bs a0 κ (setPending st pd) := ⟨B.perm, B.kind, B.ok⟩
  obtain ⟨xs, hxs⟩ : ∃ xs, xs = arrOf st := ⟨_, rfl⟩
  have In := in0_all B
  have ext0 := fun lo hi => in0_seg B lo hi
  rw [← hxs] at hs u1 u2 h In ext0
  have hxz : sa + na + nb ≤ xs.size := by omega
  obtain ⟨key, ek, mk⟩ := In.at (show sa + na < xs.size by omega)
  have ek' : (arrOf st)[sa + na]? = some key := by rw [← hxs]; exact ek
  refine wpS_bind (elem_of ek' ?_)
  refine wpS_bind (gal_of (left := false) (arr := arrOf st) (base := sa) (n := na) (hint := 0) C B1.kind (in0_all B) mk (by rw [← hxs]; omega) (by omega) (by rw [← hxs]; exact u1) fun k kn ka kb => ?_)
  have ka1 : ∀ i, sa ≤ i → i < sa + k → R rk xs i ≤ rk key := fun i h1 h2 => by
    have := ka (i - sa) (by omega)
    unfold bey at this
    rw [if_neg (by decide), ← hxs, show sa + (i - sa) = i by omega] at this
    simpa using this
  have kb1 : ∀ i, sa + k ≤ i → i < sa + na → rk key < R rk xs i := fun i h1 h2 => by
    have := kb (i - sa) (by omega) (by omega)
    unfold bey at this
    rw [if_neg (by decide), ← hxs, show sa + (i - sa) = i by omega] at this
    simpa using this
  have rkey : R rk xs (sa + na) = rk key := R_at ek
  have joined : (∀ i, sa ≤ i → i < sa + na → ∀ j, sa + na ≤ j → j < sa + na + nb → R rk xs i ≤ R rk xs j) → Up rk xs sa (sa + na + nb) := fun g i j h1 h2 h3 => by
    by_cases y : j < sa + na
    · exact u1 i j h1 h2 y
    · by_cases z : i < sa + na
      · exact g i h1 z j (by omega) h3
      · exact u2 i j (by omega) h2 h3
  refine wIte (fun z => ?_) (fun z => ?_)
  · have z : na - k = 0 := beqT z
    refine wpS_pure (h _ B1 ?_ (by rw [hxs]; exact Kept.refl _ _ _) rfl)
    show Up rk (arrOf st) _ _
    rw [← hxs]
    refine joined fun i h1 h2 j h3 h4 => ?_
    have a1 := ka1 i h1 (by omega)
    have a2 := u2 (sa + na) j (Nat.le_refl _) h3 h4
    omega
  have z : ¬ na - k = 0 := beqF z
  have ep : sa + k + (na - k) - 1 = sa + na - 1 := by omega
  obtain ⟨key2, ek2, mk2⟩ := In.at (show sa + na - 1 < xs.size by omega)
  have ek2' : (arrOf st)[sa + k + (na - k) - 1]? = some key2 := by rw [ep, ← hxs]; exact ek2
  have rkey2 : R rk xs (sa + na - 1) = rk key2 := R_at ek2
  refine wpS_bind (elem_of ek2' ?_)
  refine wpS_bind (gal_of (left := true) (arr := arrOf st) (base := sa + na) (n := nb) (hint := nb - 1) C B1.kind (in0_all B) mk2 (by rw [← hxs]; omega) (by omega) (by rw [← hxs]; exact u2) fun k' kn' ka' kb' => ?_)
  have ka2 : ∀ i, sa + na ≤ i → i < sa + na + k' → R rk xs i < rk key2 := fun i h1 h2 => by
    have := ka' (i - (sa + na)) (by omega)
    unfold bey at this
    rw [if_pos rfl, ← hxs, show sa + na + (i - (sa + na)) = i by omega] at this
    simpa using this
  have kb2 : ∀ i, sa + na + k' ≤ i → i < sa + na + nb → rk key2 ≤ R rk xs i := fun i h1 h2 => by
    have := kb' (i - (sa + na)) (by omega) (by omega)
    unfold bey at this
    rw [if_pos rfl, ← hxs, show sa + na + (i - (sa + na)) = i by omega] at this
    simpa using this
  refine wIte (fun z' => ?_) (fun z' => ?_)
  · have z' : k' = 0 := beqT z'
    refine wpS_pure (h _ B1 ?_ (by rw [hxs]; exact Kept.refl _ _ _) rfl)
    show Up rk (arrOf st) _ _
    rw [← hxs]
    refine joined fun i h1 h2 j h3 h4 => ?_
    have a1 := kb2 j (by omega) h4
    have a2 := u1 i (sa + na - 1) h1 (by omega) (by omega)
    omega
  have z' : ¬ k' = 0 := beqF z'
  have xl : (xs.extract (sa + k) (sa + na)).toList = seg xs (sa + k) (sa + na) := ext_seg _ _ _
  have yl : (xs.extract (sa + na) (sa + na + k')).toList = seg xs (sa + na) (sa + na + k') := ext_seg _ _ _
  have xz : (xs.extract (sa + k) (sa + na)).size = na - k := by rw [Array.size_extract]; omega
  have yz : (xs.extract (sa + na) (sa + na + k')).size = k' := by rw [Array.size_extract]; omega
  have sx : Srt (Le rk) (xs.extract (sa + k) (sa + na)).toList := by rw [xl]; exact srt_seg (fun i j h1 h2 h3 => u1 i j (by omega) h2 h3) (by omega)
  have sy : Srt (Le rk) (xs.extract (sa + na) (sa + na + k')).toList := by rw [yl]; exact srt_seg (fun i j h1 h2 h3 => u2 i j h1 h2 (by omega)) (by omega)
  have fx : ∀ x, (xs.extract (sa + na) (sa + na + k'))[0]? = some x → ∀ y ∈ (xs.extract (sa + k) (sa + na)).toList, Le rk x y := fun x hx y hy => by
    rw [ext_get (by omega), Nat.add_zero, ek] at hx
    rw [xl] at hy
    obtain ⟨i, h1, h2, h3⟩ := seg_mem (by omega) hy
    have := kb1 i h1 h2
    rw [R_at h3] at this
    rw [← Option.some.inj hx]
    exact Nat.le_of_lt this
  have ly : ∀ x ∈ (xs.extract (sa + na) (sa + na + k')).toList, ∀ y, (xs.extract (sa + k) (sa + na))[(xs.extract (sa + k) (sa + na)).size - 1]? = some y → Le rk x y := fun x hx y hy => by
    rw [xz, ext_get (by omega), show sa + k + (na - k - 1) = sa + na - 1 by omega, ek2] at hy
    rw [yl] at hx
    obtain ⟨i, h1, h2, h3⟩ := seg_mem (by omega) hx
    have := ka2 i h1 h2
    rw [R_at h3] at this
    rw [← Option.some.inj hy]
    exact Nat.le_of_lt this
  have fin : ∀ m t, MQ rk (xs.extract (sa + k) (sa + na)) (xs.extract (sa + na) (sa + na + k')) (setPending st pd) m t → Q true (setArr t (wr (sa + k) m.toList.zipIdx (arrOf t))) ∧ failedOf t = none := by
    rintro m t ⟨⟨pm, sm⟩, l⟩
    have lm : m.toList.length = na - k + k' := by rw [pm.length_eq, List.length_append, Array.length_toList, Array.length_toList, xz, yz]
    have ea : arrOf t = xs := by rw [l.arr, hxs]
    have hle : sa + k + m.toList.length ≤ xs.size := by omega
    have esg : seg xs (sa + k) (sa + k + m.toList.length) = seg xs (sa + k) (sa + na) ++ seg xs (sa + na) (sa + na + k') := by
      rw [seg_app (by omega) (by omega) (by omega)]; congr 1; omega
    have pm' : m.toList.Perm (seg xs (sa + k) (sa + k + m.toList.length)) := by rw [esg, ← xl, ← yl]; exact pm
    have kw := wr_kept hle
    have zw := wr_size (sa + k) m.toList.zipIdx xs
    refine ⟨h _ ⟨?_, l.kind.trans B1.kind, l.ok.trans B1.ok⟩ ?_ ?_ l.pend, l.ok.trans B1.ok⟩
    · show (wr (sa + k) m.toList.zipIdx (arrOf t)).Perm a0
      rw [ea]
      refine (wr_perm hle pm').trans ?_
      rw [hxs]; exact B.perm
    · show Up rk (wr (sa + k) m.toList.zipIdx (arrOf t)) sa (sa + na + nb)
      rw [ea]
      refine up_seg ?_ (by omega)
      rw [← seg_app (show sa ≤ sa + k by omega) (show sa + k ≤ sa + na + nb by omega) (by omega), ← seg_app (show sa + k ≤ sa + k + m.toList.length by omega) (show sa + k + m.toList.length ≤ sa + na + nb by omega) (by omega), wr_seg hle,
        seg_kept zw kw (.inl (Nat.le_refl _)) (by omega), seg_kept zw kw (.inr (Nat.le_refl _)) (by omega)]
      have mm : ∀ x ∈ m.toList, (∃ i, sa + k ≤ i ∧ i < sa + na ∧ xs[i]? = some x) ∨ (∃ i, sa + na ≤ i ∧ i < sa + na + k' ∧ xs[i]? = some x) := fun x hx => by
        have := pm.mem_iff.mp hx
        rw [xl, yl] at this
        rcases List.mem_append.mp this with e | e
        · exact .inl (seg_mem (by omega) e)
        · exact .inr (seg_mem (by omega) e)
      refine srt_app.mpr ⟨srt_seg (fun i j h1 h2 h3 => u1 i j h1 h2 (by omega)) (by omega), srt_app.mpr ⟨sm, srt_seg (fun i j h1 h2 h3 => u2 i j (by omega) h2 h3) (by omega), fun x hx y hy => ?_⟩, fun x hx y hy => ?_⟩
      · obtain ⟨j, j1, j2, j3⟩ := seg_mem (by omega) hy
        have b2 := kb2 j (by omega) j2
        rw [R_at j3] at b2
        rcases mm x hx with ⟨i, i1, i2, i3⟩ | ⟨i, i1, i2, i3⟩
        · have b1 := u1 i (sa + na - 1) (by omega) (by omega) (by omega)
          rw [R_at i3, rkey2] at b1
          exact Nat.le_trans b1 b2
        · have b1 := ka2 i i1 i2
          rw [R_at i3] at b1
          show rk x ≤ rk y
          omega
      · obtain ⟨i, i1, i2, i3⟩ := seg_mem (by omega) hx
        have b1 := ka1 i i1 i2
        rw [R_at i3] at b1
        show rk x ≤ rk y
        rcases List.mem_append.mp hy with e | e
        · rcases mm y e with ⟨j, j1, j2, j3⟩ | ⟨j, j1, j2, j3⟩
          · have b2 := kb1 j j1 j2
            rw [R_at j3] at b2
            omega
          · have b2 := u2 (sa + na) j (Nat.le_refl _) j1 (by omega)
            rw [R_at j3, rkey] at b2
            omega
        · obtain ⟨j, j1, j2, j3⟩ := seg_mem (by omega) e
          have b2 := u2 (sa + na) j (Nat.le_refl _) (by omega) j2
          rw [R_at j3, rkey] at b2
          omega
    · show Kept xs (wr (sa + k) m.toList.zipIdx (arrOf t)) _ _
      rw [ea]
      exact kw.wide (by omega) (by omega)
  have ix := ext0 (sa + k) (sa + na)
  have iy := ext0 (sa + na) (sa + na + k')
  have k1 : kindOf (setPending st pd) = κ := B1.kind
  have end_ : ∀ m t, MQ rk (xs.extract (sa + k) (sa + na)) (xs.extract (sa + na) (sa + na + k')) (setPending st pd) m t → Q (failedOf (setArr t (wr (sa + k) m.toList.zipIdx (arrOf t)))).isNone (setArr t (wr (sa + k) m.toList.zipIdx (arrOf t))) := fun m t q => by
    obtain ⟨f1, f2⟩ := fin m t q
    show Q (failedOf t).isNone _
    rw [f2]; exact f1
  rw [hxs] at ix iy sx sy fx ly end_ xz yz
  have g1 : 1 ≤ ((arrOf st).extract (sa + k) (sa + na)).size := by rw [xz]; omega
  have g2 : 1 ≤ ((arrOf st).extract (sa + na) (sa + na + k')).size := by rw [yz]; omega
  refine wIte (fun _ => ?_) (fun _ => ?_)
  · refine wpS_bind (wpS_mono (mLo_of C k1 ix iy g1 g2 sx sy fx ly) fun m t q => ?_)
    exact wpS_bind (wpS_modify (wpS_bind (wpS_get (wpS_pure (end_ m t q)))))
  · refine wpS_bind (wpS_mono (mHi_of C k1 ix iy g1 g2 sx sy fx ly) fun m t q => ?_)
    exact wpS_bind (wpS_modify (wpS_bind (wpS_get (wpS_pure (end_ m t q)))))
end
end TS
namespace TS
open PySem PyProof.Rows
section
variable {rk : Keyed → Nat}
def Cov (rk : Keyed → Nat) (xs : Array Keyed) : List (Nat × Nat × Nat) → Nat → Nat → Prop
  | [], a, b => a = b
  | q :: r, a, b => q.1 = a ∧ 1 ≤ q.2.1 ∧ Up rk xs a (a + q.2.1) ∧ Cov rk xs r (a + q.2.1) b
theorem Cov.len {xs : Array Keyed} : ∀ {l : List (Nat × Nat × Nat)} {a b : Nat}, Cov rk xs l a b → a + l.length ≤ b
  | [], a, b, h => Nat.le_of_eq h
  | q :: r, a, b, ⟨h1, h2, h3, h4⟩ => by
    have := Cov.len h4
    rw [List.length_cons]; omega
theorem Cov.app {xs : Array Keyed} : ∀ {l m : List (Nat × Nat × Nat)} {a b : Nat}, Cov rk xs (l ++ m) a b ↔ ∃ c, Cov rk xs l a c ∧ Cov rk xs m c b
  | [], m, a, b => ⟨fun h => ⟨a, rfl, h⟩, fun ⟨c, e, h⟩ => by cases e; exact h⟩
  | q :: r, m, a, b => by
    constructor
    · rintro ⟨h1, h2, h3, h4⟩
      obtain ⟨c, g1, g2⟩ := Cov.app.mp h4
      exact ⟨c, ⟨h1, h2, h3, g1⟩, g2⟩
    · rintro ⟨c, ⟨h1, h2, h3, h4⟩, g⟩
      exact ⟨h1, h2, h3, Cov.app.mpr ⟨c, h4, g⟩⟩
theorem Cov.kept {xs ys : Array Keyed} {lo hi : Nat} (k : Kept xs ys lo hi) : ∀ {l : List (Nat × Nat × Nat)} {a b : Nat}, Cov rk xs l a b → b ≤ lo ∨ hi ≤ a → Cov rk ys l a b
  | [], a, b, h, _ => h
  | q :: r, a, b, ⟨h1, h2, h3, h4⟩, hk => by
    have := Cov.len h4
    exact ⟨h1, h2, k.up h3 (by omega), Cov.kept k h4 (by omega)⟩
theorem set_erase {α : Type} : ∀ (l : List α) (x y z : α) (m : List α), ((l ++ x :: y :: m).set l.length z).eraseIdx (l.length + 1) = l ++ z :: m
  | [], x, y, z, m => rfl
  | a :: l, x, y, z, m => by
    show a :: (((l ++ x :: y :: m).set l.length z).eraseIdx (l.length + 1)) = _
    rw [set_erase l x y z m]; rfl
theorem two_at {α : Type} {l : List α} {i : Nat} (h : i + 1 < l.length) : l = l.take i ++ l[i] :: l[i + 1] :: l.drop (i + 2) := by
  have e1 := List.drop_eq_getElem_cons (show i < l.length by omega)
  have e2 := List.drop_eq_getElem_cons h
  rw [← e2, ← e1, List.take_append_drop]
theorem cov_mod {xs : Array Keyed} {pw : Nat} : ∀ {l : List (Nat × Nat × Nat)} {n a b : Nat}, Cov rk xs l a b → Cov rk xs (l.modify n fun q => (q.1, q.2.1, pw)) a b
  | [], n, a, b, h => by cases n <;> exact h
  | q :: r, 0, a, b, ⟨h1, h2, h3, h4⟩ => ⟨h1, h2, h3, h4⟩
  | q :: r, n + 1, a, b, ⟨h1, h2, h3, h4⟩ => ⟨h1, h2, h3, cov_mod h4⟩
end
section
variable {prog : Program} {w : World} {A : Around} {E : Value → Shared → Prop} {s : Shared}
variable {rk : Keyed → Nat} {a0 : Array Keyed} {κ : SortKind}
theorem mst_of {st : SortSt} {i lo : Nat} {Q : Bool → SortSt → Prop} (C : Cm prog w A s κ rk a0) (B : Bs a0 κ st) (cv : Cov rk (arrOf st) (pendingOf st).toList 0 lo) (hl : lo ≤ a0.size) (hi : i + 1 < (pendingOf st).size)
    (h : ∀ t, Bs a0 κ t → Cov rk (arrOf t) (pendingOf t).toList 0 lo → (pendingOf t).size + 1 = (pendingOf st).size → Kept (arrOf st) (arrOf t) 0 lo → Q true t) : wpS (model prog w) A E s (mergeAt' i) Q st := by
  obtain ⟨l, hl0⟩ : ∃ l, l = (pendingOf st).toList := ⟨_, rfl⟩
  have ll : l.length = (pendingOf st).size := by rw [hl0]; simp
  have hil : i + 1 < l.length := by omega
  have e := two_at hil
  rw [← hl0, e] at cv
  obtain ⟨c, c1, d1, d2, d3, f1, f2, f3, g⟩ := Cov.app.mp cv
  have lg := Cov.len g
  have e1 : (pendingOf st)[i]? = some (c, l[i].2.1, l[i].2.2) := by
    rw [← Array.getElem?_toList, ← hl0, List.getElem?_eq_getElem (by omega), ← d1]
  have e2 : (pendingOf st)[i + 1]? = some (c + l[i].2.1, l[i + 1].2.1, l[i + 1].2.2) := by
    rw [← Array.getElem?_toList, ← hl0, List.getElem?_eq_getElem hil, ← f1]
  refine mAt_of C B e1 e2 d2 f2 (by omega) d3 f3 fun t B' u k p => ?_
  have lt : (l.take i).length = i := by rw [List.length_take]; omega
  have ep : (pendingOf t).toList = l.take i ++ (c, l[i].2.1 + l[i + 1].2.1, l[i].2.2) :: l.drop (i + 2) := by
    rw [p, Array.toList_eraseIdxIfInBounds, Array.toList_setIfInBounds, ← hl0]
    have := set_erase (l.take i) l[i] l[i + 1] (c, l[i].2.1 + l[i + 1].2.1, l[i].2.2) (l.drop (i + 2))
    rw [lt, ← e] at this
    exact this
  have lc := Cov.len c1
  refine h t B' ?_ ?_ (k.wide (Nat.zero_le _) (by omega))
  · rw [ep]
    refine Cov.app.mpr ⟨c, Cov.kept k c1 (.inl (Nat.le_refl _)), rfl, by show 1 ≤ l[i].2.1 + l[i + 1].2.1; omega, ?_, ?_⟩
    · show Up rk (arrOf t) c (c + (l[i].2.1 + l[i + 1].2.1))
      rw [← Nat.add_assoc]; exact u
    · show Cov rk (arrOf t) (l.drop (i + 2)) (c + (l[i].2.1 + l[i + 1].2.1)) lo
      rw [← Nat.add_assoc]
      exact Cov.kept k g (.inr (Nat.le_refl _))
  · rw [← Array.length_toList, ep, List.length_append, List.length_cons, List.length_drop, lt]
    omega
theorem iteLe {c : Prop} [Decidable c] {a b n : Nat} (h1 : a ≤ n) (h2 : b ≤ n) : (if c then a else b) ≤ n := by split <;> assumption
theorem cov_push {t : SortSt} {lo n : Nat} (cv : Cov rk (arrOf t) (pendingOf t).toList 0 lo) (n1 : 1 ≤ n) (u : Up rk (arrOf t) lo (lo + n)) : Cov rk (arrOf t) ((pendingOf t).push (lo, n, 0)).toList 0 (lo + n) := by
  rw [Array.toList_push]
  exact Cov.app.mpr ⟨lo, cv, rfl, n1, u, rfl⟩
theorem sort_of {st : SortSt} {Q : Unit → SortSt → Prop} (C : Cm prog w A s κ rk a0) (B : Bs a0 κ st) (pe : pendingOf st = #[]) (h2 : 2 ≤ a0.size)
    (h : ∀ t, Bs a0 κ t → Up rk (arrOf t) 0 a0.size → Q () t) : wpS (model prog w) A E s sortRuns' Q st := by
  rw [sortRuns'_eq]
  refine wpS_bind (wpS_get ?_)
  dsimp only
  rw [B.size]
  generalize minRun' a0.size a0.size 0 = mr
  refine wpS_bind (wpS_mono (wpS_forRange (I := fun x c t => ∃ lo, c = (none, lo) ∧ Bs a0 κ t ∧ Cov rk (arrOf t) (pendingOf t).toList 0 lo ∧ lo ≤ a0.size ∧ (x ≤ lo ∨ a0.size ≤ lo))
    (Q := fun c t => ∃ lo, c = (none, lo) ∧ Bs a0 κ t ∧ Cov rk (arrOf t) (pendingOf t).toList 0 lo ∧ lo = a0.size) ?step ?fin ⟨0, rfl, B, by rw [pe]; exact rfl, Nat.zero_le _, .inl (Nat.le_refl _)⟩) ?post)
  case fin =>
    rintro c t ⟨lo, rfl, B', cv, h3, h4⟩
    exact ⟨lo, rfl, B', cv, by omega⟩
  case step =>
    rintro x c t _ xn ⟨lo, rfl, B', cv, h3, h4⟩
    refine wIte (fun z => wpS_pure ⟨lo, rfl, B', cv, by have z : lo ≥ a0.size := z; omega⟩) (fun z => ?_)
    have z : ¬ lo ≥ a0.size := z
    refine wpS_bind (wpS_mono (run_of (lo := lo) (nrem := a0.size - lo) C (by omega) (by omega) B') ?_)
    rintro r t1 ⟨n, rfl, B1, n1, n2, u1, k1, p1⟩
    have cv1 : Cov rk (arrOf t1) (pendingOf t1).toList 0 lo := by rw [p1]; exact Cov.kept k1 cv (.inl (Nat.le_refl _))
    clear k1 p1
    refine wIte (fun y => ?_) (fun y => ?_)
    have y : n < mr := y
    refine wpS_bind (wpS_lift (wpAny_rule ⟨rfl, ?_⟩))
    refine wpS_bind (bin_of (lo := lo) (n := min (a0.size - lo) mr) (ok := n) C (by omega) (by omega) B1 u1 fun t2 B2 u2 k2 p2 => ?_)
    refine wIte (fun h => absurd h (by decide)) (fun _ => ?_)
    have cv2 : Cov rk (arrOf t2) (pendingOf t2).toList 0 lo := by rw [p2]; exact Cov.kept k2 cv1 (.inl (Nat.le_refl _))
    have N1 : 1 ≤ min (a0.size - lo) mr := by omega
    have N2 : lo + min (a0.size - lo) mr ≤ a0.size := by omega
    clear p2 k2
    generalize min (a0.size - lo) mr = N at u2 N1 N2 ⊢
    rotate_left
    have N1 : 1 ≤ n := n1
    have N2 : lo + n ≤ a0.size := by omega
    have B2 := B1
    have u2 := u1
    have cv2 := cv1
    generalize t1 = t2 at B2 u2 cv2 ⊢
    generalize n = N at N1 N2 u2 ⊢
    rotate_left
    all_goals
      refine wpS_bind (wpS_get ?_)
      cases hb : (pendingOf t2).back? with
      | none =>
        exact wpS_bind (wpS_modify (wpS_pure ⟨lo + N, rfl, ⟨B2.perm, B2.kind, B2.ok⟩, cov_push cv2 N1 u2, N2, by omega⟩))
      | some q =>
        obtain ⟨s1, m1, pw⟩ := q
        refine wpS_bind (wpS_mono (wpS_forRange (I := fun y c t => c = (none, ()) ∧ Bs a0 κ t ∧ Cov rk (arrOf t) (pendingOf t).toList 0 lo ∧ Up rk (arrOf t) lo (lo + N))
          (Q := fun c t => c = (none, ()) ∧ Bs a0 κ t ∧ Cov rk (arrOf t) (pendingOf t).toList 0 lo ∧ Up rk (arrOf t) lo (lo + N)) ?_ (fun _ _ h => h) ⟨rfl, B2, cv2, u2⟩) ?_)
        · rintro y c t3 _ yn ⟨rfl, B3, cv3, u3⟩
          refine wpS_bind (wpS_get ?_)
          by_cases g : (pendingOf t3).size > 1
          · rw [if_pos g, Array.getElem?_eq_getElem (show (pendingOf t3).size - 2 < (pendingOf t3).size by omega)]
            refine wIte (fun _ => wpS_pure ⟨rfl, B3, cv3, u3⟩) (fun _ => ?_)
            refine wpS_bind (mst_of C B3 cv3 (by omega) (by omega) fun t4 B4 cv4 sz k4 => ?_)
            refine wIte (fun h => absurd h (by decide)) (fun _ => ?_)
            exact wpS_pure ⟨rfl, B4, cv4, k4.up u3 (.inr (Nat.le_refl _))⟩
          · rw [if_neg g]
            exact wpS_pure ⟨rfl, B3, cv3, u3⟩
        · rintro c t3 ⟨rfl, B3, cv3, u3⟩
          refine wpS_bind (wpS_modify (wpS_bind (wpS_modify (wpS_pure ⟨lo + N, rfl, ⟨B3.perm, B3.kind, B3.ok⟩, ?_, N2, by omega⟩))))
          show Cov rk (arrOf t3) (Array.toList (Array.push (Array.modify (pendingOf t3) _ _) (lo, N, 0))) 0 (lo + N)
          rw [Array.toList_push, Array.toList_modify]
          exact Cov.app.mpr ⟨lo, cov_mod cv3, rfl, N1, u3, rfl⟩
  case post =>
    rintro c t ⟨lo, rfl, B', cv, rfl⟩
    dsimp only
    have lc := Cov.len cv
    refine wpS_bind (wpS_mono (wpS_forRange (I := fun x c t => c = (none, ()) ∧ Bs a0 κ t ∧ Cov rk (arrOf t) (pendingOf t).toList 0 a0.size ∧ ((pendingOf t).size ≤ 1 ∨ (pendingOf t).size + x ≤ a0.size))
      (Q := fun c t => c = (none, ()) ∧ Bs a0 κ t ∧ Cov rk (arrOf t) (pendingOf t).toList 0 a0.size ∧ (pendingOf t).size ≤ 1) ?stepE ?finE ⟨rfl, B', cv, .inr (by rw [← Array.length_toList]; omega)⟩) ?postE)
    case finE =>
      rintro c t ⟨rfl, B', cv, z⟩
      exact ⟨rfl, B', cv, by omega⟩
    case stepE =>
      rintro x c t _ xn ⟨rfl, B', cv, z⟩
      refine wpS_bind (wpS_get ?_)
      refine wIte (fun y => wpS_pure ⟨rfl, B', cv, y⟩) (fun y => ?_)
      have y : ¬ (pendingOf t).size ≤ 1 := y
      refine wpS_bind (mst_of C B' cv (Nat.le_refl _) ?_ fun t2 B2 cv2 sz _ => ?_)
      · exact Nat.lt_of_le_of_lt (Nat.succ_le_succ (iteLe (n := (pendingOf t).size - 2) (by omega) (Nat.le_refl _))) (by omega)
      · exact wpS_pure ⟨rfl, B2, cv2, by omega⟩
    case postE =>
      rintro c t ⟨rfl, B', cv, z⟩
      refine wpS_pure (h t B' ?_)
      obtain ⟨l, hl⟩ : ∃ l, l = (pendingOf t).toList := ⟨_, rfl⟩
      have ll : l.length ≤ 1 := by rw [hl, Array.length_toList]; exact z
      rw [← hl] at cv
      match l, ll, cv with
      | [], _, cv => have : 0 = a0.size := cv; omega
      | [q], _, ⟨c1, c2, c3, c4⟩ =>
        have c4 : 0 + q.2.1 = a0.size := c4
        rw [c4] at c3
        exact c3
end
end TS
namespace L2
open PySem PySem.Spec PyProof.Rows
section
variable {prog : Program} {w : World} {A : Around} {E : Value → Shared → Prop} {s : Shared}
structure SortOk (prog : Program) (w : World) (A : Around) (s : Shared) (rk : Value → Nat) (vs : List Value) : Prop where
  kind : 2 ≤ vs.length → ∀ (Q : SortKind → Shared → Prop) (E : Value → Shared → Prop), Q oneType' s → wpAny (model prog w) A (keyKind' vs.toArray) Q E s
  less : ∀ x ∈ vs, ∀ y ∈ vs, ∀ (Q : Bool → Shared → Prop) (E : Value → Shared → Prop), Q (decide (rk x < rk y)) s → wpAny (model prog w) A (oneLt' true x y) Q E s
theorem pair_eq {vs : List Value} {p : Keyed} (h : p ∈ (pairsOf vs).toList) : p.1 ∈ vs ∧ p.2 = p.1 := by
  rw [pairsOf_toList] at h
  obtain ⟨i, hi⟩ := List.mem_iff_getElem?.mp h
  obtain ⟨x, y⟩ := p
  rw [List.getElem?_zip_eq_some] at hi
  obtain ⟨e1, e2⟩ := hi
  rw [e1] at e2
  exact ⟨List.mem_of_getElem? e1, (Option.some.inj e2).symm⟩
theorem out_of {rk : Value → Nat} {vs : List Value} {xs : Array Keyed} (hp : xs.Perm (pairsOf vs)) (u : TS.Up (fun p => rk p.1) xs 0 xs.size) : (xs.map (·.2)).toList.Perm vs ∧ (xs.map (·.2)).toList.Pairwise (fun x y => rk x ≤ rk y) := by
  have pl := Array.perm_iff_toList_perm.mp hp
  have e : xs.toList.map (·.2) = xs.toList.map (·.1) := List.map_congr_left fun p hp' => (pair_eq (pl.mem_iff.mp hp')).2
  rw [Array.toList_map]
  constructor
  · refine (pl.map _).trans ?_
    rw [← Array.toList_map, pairs_snd]
  · show List.Pairwise _ (xs.toList.map (·.2))
    rw [e]
    exact List.pairwise_map.mpr (TS.srt_of_up u)
theorem cm_of {rk : Value → Nat} {vs : List Value} (h : SortOk prog w A s rk vs) : TS.Cm prog w A s oneType' (fun p => rk p.1) (pairsOf vs) := fun x hx y hy Q E' q => by
  rw [keyLt'_oneType]
  exact h.less x.1 (pair_eq hx).1 y.1 (pair_eq hy).1 Q E' q
theorem gsort {a : Addr} {vs : List Value} {rk : Value → Nat} {n : Nat} {P : Fin → Shared → Prop} (ho : s.heap.get? a = some (seqObj "list" vs.toArray n)) (hl : vs.length ≤ sizeLine)
    (ok : ∀ h' : Heap, (∀ b o, b ≠ a → s.heap.get? b = some o → h'.get? b = some o) → SortOk prog w A { s with heap := h' } rk vs)
    (h : ∀ out : List Value, out.Perm vs → out.Pairwise (fun x y => rk x ≤ rk y) → P (.done (.ret .none)) { s with heap := sortedHeap s.heap a vs out.toArray }) : wpAny (model prog w) A (Builtin.«list.sort» ⟨[.ref a], []⟩) P E s := by
  rw [list_sort_plain]
  have ha : a < s.heap.objs.size := Heap.lt_size ho
  have hsz : vs.toArray.size = vs.length := by simp
  refine wpAny_bind (listItems_at ho rfl ?_)
  refine wpAny_bind (listUpdate_at ho rfl ?_ (by rw [hsz]; exact hl) (Nat.zero_le _))
  obtain ⟨e1, ho1⟩ : ∃ e1, (s.heap.update a (Obj.mapSeq fun _ => #[])).get? a = some (seqObj "list" #[] e1) := ⟨_, get?_update_seq ho (fun _ => #[])⟩
  refine wpAny_bind (seqEpoch_at ho1 rfl ?_)
  refine wpAny_bind (wpAny_newTuple ?_ (hsz := hl))
  refine wpAny_bind (wpAny_newList ?_)
  refine wpAny_holding ?_
  obtain ⟨H6, e6⟩ : ∃ H6, H6 = ((s.heap.update a (Obj.mapSeq fun _ => #[])).push (seqObj "tuple" vs.toArray 0)).push (seqObj "list" #[] 0) := ⟨_, rfl⟩
  have ho6 : H6.get? a = some (seqObj "list" #[] e1) := by
    rw [e6, Heap.get?_push_ne _ _ _ (by rw [size_push', Heap.size_update]; exact Nat.ne_of_lt (Nat.lt_succ_of_lt ha)), Heap.get?_push_ne _ _ _ (by rw [Heap.size_update]; exact Nat.ne_of_lt ha)]
    exact ho1
  have old : ∀ b o, b ≠ a → s.heap.get? b = some o → H6.get? b = some o := by
    intro b o nb hb
    rw [e6]
    refine Heap.get?_push_of_some _ (Heap.get?_push_of_some _ ?_)
    rw [Heap.get?_update_ne _ _ _ _ nb]
    exact hb
  have ok6 := ok H6 old
  show wpAny (model prog w) A _ P E { s with heap := ((s.heap.update a (Obj.mapSeq fun _ => #[])).push (seqObj "tuple" vs.toArray 0)).push (seqObj "list" #[] 0) }
  unfold sortedHeap at h
  rw [← e6] at h ⊢
  dsimp only
  by_cases h2 : vs.toArray.size < 2
  · rw [if_pos h2, if_pos h2]
    refine wpAny_bind (wpAny_pure ?_)
    rw [StateT.run_pure]
    refine wpAny_bind (wpAny_pure ?_)
    dsimp only
    refine wpAny_bind (seqEpoch_at ho6 rfl ?_)
    have ee : (arrOf (SortSt.mk' general' (vs.toArray.zip vs.toArray) #[] 7 none)).map (·.2) = vs.toArray := pairs_snd vs
    rw [ee]
    refine wpAny_bind (listUpdate_at ho6 rfl ?_ (Nat.zero_le _) (by rw [hsz]; omega))
    simp only [bne_self_eq_false, Bool.false_eq_true, if_false]
    refine wpAny_pure (h vs (List.Perm.refl _) ?_)
    match vs, hsz, h2 with
    | [], _, _ => exact List.Pairwise.nil
    | [_], _, _ => exact List.pairwise_singleton _ _
    | _ :: _ :: _, _, h2 => simp at h2; omega
  · rw [if_neg h2, if_neg h2]
    refine wpAny_bind (ok6.kind (by omega) _ _ ?_)
    refine wpAny_bind (wpAny_mono (TS.sort_of (s := { s with heap := H6 }) (st := SortSt.mk' oneType' (vs.toArray.zip vs.toArray) #[] 7 none) (a0 := pairsOf vs) (rk := fun p => rk p.1)
      (Q := fun _ st' => (arrOf st').Perm (pairsOf vs) ∧ failedOf st' = none ∧ TS.Up (fun p => rk p.1) (arrOf st') 0 (pairsOf vs).size) (cm_of ok6) ⟨Array.Perm.refl _, rfl, rfl⟩ rfl (by rw [pairsOf_size]; omega) fun t B u => ⟨B.perm, B.ok, u⟩) ?_ fun _ _ e => e)
    rintro ⟨⟨⟩, st'⟩ s' ⟨rfl, hp, hf, hu⟩
    dsimp only
    rw [← hp.size_eq] at hu
    obtain ⟨o1, o2⟩ := out_of hp hu
    refine wpAny_bind (seqEpoch_at ho6 rfl ?_)
    refine wpAny_bind (listUpdate_at ho6 rfl ?_ (Nat.zero_le _) (by rw [Array.size_map, hp.size_eq, pairsOf_size]; omega))
    rw [hf]
    simp only [bne_self_eq_false, Bool.false_eq_true, if_false]
    have := h _ o1 o2
    rw [Array.toArray_toList] at this
    exact wpAny_pure this
theorem gsorted {l : Addr} {vs : List Value} {rk : Value → Nat} {Q : Value → Shared → Prop} (pl : s.heap.IsList l vs.toArray) (hl : vs.length ≤ sizeLine)
    (ok : ∀ h' : Heap, (∀ b o, b < s.heap.objs.size → s.heap.get? b = some o → h'.get? b = some o) → SortOk prog w A.in1.in1 { s with heap := h' } rk vs)
    (h : ∀ out : List Value, out.Perm vs → out.Pairwise (fun x y => rk x ≤ rk y) → Q (.ref (s.heap.objs.size + 1)) { s with heap := sortedAll s.heap vs out.toArray }) : wpAny (model prog w) A (call (.builtin "sorted") [.ref l]) Q E s := by
  refine Calls.call_function_entry kind_sorted plain_sorted entry_sorted (args_sorted1 _) ?_
  unfold Builtin.«sorted»
  refine wpAny_bind (m := checkCount "sorted" 1 1 _) (wpAny_pure ?_)
  refine wpAny_bind (collect_list pl ?_ hl)
  refine wpAny_bind (wpAny_newList ?_ (hsz := hl))
  have hsz : ((s.heap.push (seqObj "list" #[] 0)).update s.heap.objs.size (Obj.mapSeq (· ++ vs.toArray))).objs.size = s.heap.objs.size + 1 := by
    rw [Heap.size_update, size_push']
  have hoL : (((s.heap.push (seqObj "list" #[] 0)).update s.heap.objs.size (Obj.mapSeq (· ++ vs.toArray))).push (seqObj "list" vs.toArray 0)).get? (s.heap.objs.size + 1) = some (seqObj "list" vs.toArray 0) := by
    rw [← hsz]; exact Heap.get?_push_size _ rfl
  show wpAny _ _ _ _ _ { s with heap := ((s.heap.push (seqObj "list" #[] 0)).update s.heap.objs.size (Obj.mapSeq (· ++ vs.toArray))).push (seqObj "list" vs.toArray 0) }
  rw [hsz]
  refine wpAny_bind (wpAny_holding (wpAny_call_entry slot_list_sort ⟨_, hoL, rfl⟩ entry_list_sort (gsort hoL hl (rk := rk) (fun h' old => ok h' fun b o lt e => old b o (Nat.ne_of_lt (Nat.lt_succ_of_lt lt)) ?_) fun out o1 o2 => ⟨_, rfl, ?_⟩) (args_list_sort _)))
  · refine Heap.get?_push_of_some _ ?_
    rw [Heap.get?_update_ne _ _ _ _ (Nat.ne_of_lt lt)]
    exact Heap.get?_push_of_some _ e
  · exact wpAny_pure ⟨_, rfl, h out o1 o2⟩
end
end L2
namespace L2
open PySem PySem.Spec PyProof.Rows
section
variable {α : Type}
theorem cnt_less {p q : α → Bool} (h : ∀ a, p a = true → q a = true) : ∀ {l : List α} {x : α}, x ∈ l → p x = false → q x = true → l.countP p < l.countP q
  | [], x, hx, _, _ => by cases hx
  | y :: l, x, hx, px, qx => by
    have le : l.countP p ≤ l.countP q := List.countP_mono_left fun a _ => h a
    rw [List.countP_cons, List.countP_cons]
    by_cases e : x = y
    · subst e
      rw [px, qx]
      simp; omega
    · have hx' : x ∈ l := by
        rcases List.mem_cons.mp hx with z | z
        · exact absurd z e
        · exact z
      have := cnt_less h hx' px qx
      cases hp : p y with
      | false => simp; split <;> omega
      | true => rw [h y hp]; simp; omega
def rank (lt : α → α → Bool) (l : List α) (x : α) : Nat := l.countP fun y => lt y x
theorem rank_eq {lt : α → α → Bool} (ir : ∀ a, lt a a = false) (tr : ∀ a b c, lt a b = true → lt b c = true → lt a c = true) (tot : ∀ a b, lt a b = false → lt b a = true ∨ a = b) {l : List α} {x y : α} (hx : x ∈ l) (hy : y ∈ l) : decide (rank lt l x < rank lt l y) = lt x y := by
  unfold rank
  cases h : lt x y with
  | true => exact decide_eq_true (cnt_less (fun a ha => tr a x y ha h) hx (ir x) h)
  | false =>
    refine decide_eq_false ?_
    rcases tot x y h with z | z
    · have := cnt_less (fun a ha => tr a y x ha z) hy (ir y) z
      omega
    · rw [z]; omega
theorem rank_le {lt : α → α → Bool} (ir : ∀ a, lt a a = false) (tr : ∀ a b c, lt a b = true → lt b c = true → lt a c = true) {l : List α} {x y : α} (hy : y ∈ l) (h : rank lt l x ≤ rank lt l y) : lt y x = false := by
  cases z : lt y x with
  | false => rfl
  | true =>
    have := cnt_less (l := l) (fun a ha => tr a y x ha z) hy (ir y) z
    unfold rank at h
    omega
end
theorem lex_irr : ∀ a : List Int, HT.lexLt a a = false
  | [] => rfl
  | x :: a => by rw [HT.lexLt_cons, if_pos rfl]; exact lex_irr a
theorem lex_tot : ∀ a b : List Int, HT.lexLt a b = false → HT.lexLt b a = true ∨ a = b
  | [], [], _ => .inr rfl
  | [], _ :: _, h => by rw [HT.lexLt_nil_cons] at h; cases h
  | _ :: _, [], _ => .inl rfl
  | x :: a, y :: b, h => by
    rw [HT.lexLt_cons] at h ⊢
    by_cases e : x = y
    · rw [if_pos e] at h
      rw [if_pos e.symm]
      rcases lex_tot a b h with z | z
      · exact .inl z
      · exact .inr (by rw [e, z])
    · rw [if_neg e] at h
      rw [if_neg (fun z => e z.symm)]
      have := of_decide_eq_false h
      exact .inl (decide_eq_true (by omega))
theorem lex_tr : ∀ a b c : List Int, HT.lexLt a b = true → HT.lexLt b c = true → HT.lexLt a c = true
  | [], [], _, h, _ => by cases h
  | _ :: _, [], _, h, _ => by cases h
  | _, _ :: _, [], _, h => by cases h
  | [], _ :: _, _ :: _, _, _ => rfl
  | x :: a, y :: b, z :: c, h, g => by
    rw [HT.lexLt_cons] at h g ⊢
    by_cases e : x = y
    · subst e
      rw [if_pos rfl] at h
      by_cases e2 : x = z
      · subst e2
        rw [if_pos rfl] at g ⊢
        exact lex_tr a b c h g
      · rw [if_neg e2] at g ⊢; exact g
    · rw [if_neg e] at h
      have h1 := of_decide_eq_true h
      by_cases e2 : y = z
      · subst e2
        rw [if_neg e]; exact h
      · rw [if_neg e2] at g
        have g1 := of_decide_eq_true g
        rw [if_neg (by omega)]
        exact decide_eq_true (by omega)
section
variable {prog : Program} {w : World} {A : Around} {E : Value → Shared → Prop} {s : Shared}
theorem less_rows (hu : A.units < cLine) {x y : Value} {ns ms : List Int} (hx : RowIs s.heap x ns) (hy : RowIs s.heap y ms) {Q : Bool → Shared → Prop} (q : Q (HT.lexLt ns ms) s) : wpAny (model prog w) A (oneLt' true x y) Q E s := by
  obtain ⟨p, xs, n, rfl, ox, ix⟩ := hx
  obtain ⟨p2, ys, m, rfl, oy, iy⟩ := hy
  rw [oneLt'_eq]
  simp only [if_true]
  refine wpAny_bind (wpAny_cRoomFor hu ?_)
  refine wpAny_bind (wpAny_callSpecialIfBound?_slot (T := "list") ⟨_, ox, rfl⟩ PySem.F.slot_list_lt (call_meets PySem.F.slot_list_lt ⟨_, ox, rfl⟩ PySem.F.entry_list_lt (PySem.F.args_list_lt_2 _ _) (HT.list_lt_ints p p2 xs ys n m ns ms ix iy) ⟨⟨ox, oy⟩, ?_⟩))
  exact wpAny_truthy_bool q
def adr : Value → Addr
  | .ref a => a
  | _ => 0
theorem vals_refs : ∀ {bs : List Addr} {us : List Value}, Vals (bs.map V.ref) us → us = bs.map Value.ref
  | [], us, h => by cases h; rfl
  | b :: bs, us, h => by
    cases h with
    | cons h1 h2 =>
      cases h1
      rw [vals_refs h2]; rfl
theorem refs_vals : ∀ bs : List Addr, Vals (bs.map V.ref) (bs.map Value.ref)
  | [] => .nil
  | b :: bs => .cons rfl (refs_vals bs)
theorem sok_rows {bs : List Addr} {R : Addr → List Int} (hu : A.units < cLine) (row : ∀ b ∈ bs, RowIs s.heap (.ref b) (R b)) : SortOk prog w A s (fun v => rank HT.lexLt (bs.map R) (R (adr v))) (bs.map Value.ref) := by
  constructor
  · intro h2 Q E q
    match bs, h2, row with
    | [], h2, _ => simp at h2
    | [_], h2, _ => simp at h2
    | b1 :: b2 :: bs, _, row =>
      have hr : ∀ v, v ∈ Value.ref b1 :: Value.ref b2 :: bs.map Value.ref → ∃ ns, RowIs s.heap v ns := fun v hv => by
        obtain ⟨b, hb, rfl⟩ := List.mem_map.mp (show v ∈ (b1 :: b2 :: bs).map Value.ref from hv)
        exact ⟨_, row b hb⟩
      exact kind_rows hr q
  · intro x hx y hy Q E q
    obtain ⟨b, hb, rfl⟩ := List.mem_map.mp hx
    obtain ⟨c, hc, rfl⟩ := List.mem_map.mp hy
    refine less_rows hu (row b hb) (row c hc) ?_
    have := rank_eq lex_irr lex_tr lex_tot (l := bs.map R) (List.mem_map.mpr ⟨b, hb, rfl⟩) (List.mem_map.mpr ⟨c, hc, rfl⟩)
    show Q (HT.lexLt (R b) (R c)) s
    rw [← this]; exact q
theorem sok_ints {vs : List Value} {ns : List Int} (h : IntsAre vs ns) : SortOk prog w A s (fun v => rank (fun a b : Int => decide (a < b)) ns (numOf v)) vs := by
  constructor
  · intro h2 Q E q
    match vs, h2, h with
    | [], h2, _ => simp at h2
    | [_], h2, _ => simp at h2
    | v1 :: v2 :: vs, _, h => rw [keyKind_ints h]; exact wpAny_pure q
  · intro x hx y hy Q E q
    obtain ⟨a, t, rfl⟩ := h.all x hx
    obtain ⟨b, u, rfl⟩ := h.all y hy
    have mx : ∀ {v : Int} {t : Tok}, Value.int v t ∈ vs → v ∈ ns := fun {v t} hv => by
      rw [← h.nums]
      exact List.mem_map.mpr ⟨_, hv, rfl⟩
    refine oneLt_int ?_
    have := rank_eq (lt := fun a b : Int => decide (a < b)) (fun a => decide_eq_false (Int.lt_irrefl a)) (fun a b c h1 h2 => decide_eq_true (Int.lt_trans (of_decide_eq_true h1) (of_decide_eq_true h2))) (fun a b h => by
      have := of_decide_eq_false h
      by_cases e : a = b
      · exact .inr e
      · exact .inl (decide_eq_true (by omega))) (l := ns) (mx hx) (mx hy)
    rw [← this]; exact q
end
end L2
namespace L2
open PySem PySem.Spec PyProof.Rows
section
variable {prog : Program} {w : World} {A : Around} {E : Value → Shared → Prop} {s : Shared}
end
theorem ints_perm {vs out : List Value} {ns : List Int} (h : IntsAre vs ns) (p : out.Perm vs) : ∃ ms, IntsAre out ms ∧ ms.Perm ns ∧ ms = out.map numOf := by
  refine ⟨out.map numOf, intsAre_map out fun v hv => h.all v (p.mem_iff.mp hv), ?_, rfl⟩
  rw [← h.nums]
  exact p.map numOf
section
variable {X : Cx}
theorem int_pair {ns ms : List Int} {out : List Value} (pm : ms.Perm ns) (em : ms = out.map numOf) (o2 : out.Pairwise (fun x y => rank (fun a b : Int => decide (a < b)) ns (numOf x) ≤ rank (fun a b : Int => decide (a < b)) ns (numOf y))) : ms.Pairwise (· ≤ ·) := by
  rw [em]
  refine List.pairwise_map.mpr (List.Pairwise.imp_of_mem (fun {x y} hx hy h => ?_) o2)
  have my : numOf y ∈ ns := pm.mem_iff.mp (by rw [em]; exact List.mem_map.mpr ⟨y, hy, rfl⟩)
  have := rank_le (lt := fun a b : Int => decide (a < b)) (fun a => decide_eq_false (Int.lt_irrefl a)) (fun a b c h1 h2 => decide_eq_true (Int.lt_trans (of_decide_eq_true h1) (of_decide_eq_true h2))) my h
  have := of_decide_eq_false this
  omega
theorem call_sortedN : CallR X (.builtin "sorted") (fun xs H Q => ∃ (p : Addr) (ns : List Int), xs = [.ref p] ∧ SqL X.K H p (ns.map V.int) ∧ ∀ (ms : List Int) l, ms.Perm ns → ms.Pairwise (· ≤ ·) → H l = none → Q (.ref l) (upd H l (.lst (ms.map V.int)))) := by
  intro pins s σ H xs us Q I r h
  obtain ⟨p, ns, rfl, hp, q⟩ := h
  obtain ⟨u, rfl, rx⟩ := vals1 r
  cases rx
  obtain ⟨its, rv, pl, hl⟩ := I.list hp
  have il := rv.length
  have ia := intsAre_of rv
  refine gsorted (rk := fun v => rank (fun a b : Int => decide (a < b)) ns (numOf v)) pl.isList (by omega) (fun h' old => sok_ints ia) fun out o1 o2 => ?_
  obtain ⟨ms, i1, i2, i3⟩ := ints_perm ia o1
  have hlm : ms.length ≤ sizeLine := by rw [i2.length_eq]; rw [List.length_map] at hl; exact hl
  exact ⟨.ref (s.heap.objs.size + 1), _, laid_sorted I (by simpa using i1) hlm, rfl, q ms _ i2 (int_pair i2 i3 o2) (I.hok.fresh (Nat.le_succ _))⟩
theorem call_sortedR (hu : X.A.in1.in1.units < cLine) : CallR X (.builtin "sorted") (fun xs H Q => ∃ (p : Addr) (bs : List Addr) (rs : List (List Int)), xs = [.ref p] ∧ SqL X.K H p (bs.map V.ref) ∧ RowsH H bs rs ∧
    ∀ (cs : List Addr) (ts : List (List Int)) l, cs.Perm bs → ts.Perm rs → RowsH H cs ts → ts.Pairwise (fun r r' => HT.lexLt r' r = false) → H l = none → Q (.ref l) (upd H l (.lst (cs.map V.ref)))) := by
  intro pins s σ H xs us Q I r h
  obtain ⟨p, bs, rs, rfl, hp, hr, q⟩ := h
  obtain ⟨u, rfl, rx⟩ := vals1 r
  cases rx
  obtain ⟨its, rv, pl, hl⟩ := I.list hp
  have ev := vals_refs rv
  subst ev
  have rows : ∀ b ∈ bs, ∃ r : List Int, H b = some (.lst (r.map V.int)) := fun b hb => by
    obtain ⟨j, hj⟩ := List.mem_iff_getElem?.mp hb
    have hjl : j < rs.length := by rw [← hr.1]; exact (List.getElem?_eq_some_iff.mp hj).1
    exact ⟨_, hr.2 j b _ hj (List.getElem?_eq_getElem hjl)⟩
  have er := rows_rowOf hr
  have each : ∀ h' : Heap, (∀ b o, b < s.heap.objs.size → s.heap.get? b = some o → h'.get? b = some o) → ∀ b ∈ bs, RowIs h' (.ref b) (rowOf H b) := by
    intro h' old b hb
    obtain ⟨r, e⟩ := rows b hb
    obtain ⟨_, its, n, v, g⟩ := (show ObjOk X.prog X.w H s.heap b (.lst (r.map V.int)) from I.hok b _ e)
    rw [rowOf_eq e]
    exact ⟨b, its.toArray, n, rfl, old b _ (Heap.lt_size g) g, by simpa using intsAre_of v⟩
  have hll : (bs.map V.ref).length = bs.length := List.length_map ..
  refine gsorted (rk := fun v => rank HT.lexLt (bs.map (rowOf H)) (rowOf H (adr v))) pl.isList (by rw [List.length_map]; omega) (fun h' old => sok_rows hu (each h' old)) fun out o1 o2 => ?_
  have eo : out = (out.map adr).map Value.ref := by
    rw [List.map_map]
    refine (List.map_id out).symm.trans (List.map_congr_left fun v hv => ?_)
    obtain ⟨b, _, rfl⟩ := List.mem_map.mp (o1.mem_iff.mp hv)
    rfl
  have pb : (out.map adr).Perm bs := by
    have := o1.map adr
    rw [List.map_map] at this
    have e2 : bs.map (adr ∘ Value.ref) = bs := (List.map_congr_left fun b _ => rfl).trans (List.map_id bs)
    rw [e2] at this
    exact this
  have st : ((out.map adr).map (rowOf H)).Pairwise (fun r r' => HT.lexLt r' r = false) := by
    rw [List.map_map]
    refine List.pairwise_map.mpr (List.Pairwise.imp_of_mem (fun {x y} hx hy h => ?_) o2)
    refine rank_le lex_irr lex_tr (l := bs.map (rowOf H)) ?_ h
    exact List.mem_map.mpr ⟨adr y, pb.mem_iff.mp (List.mem_map.mpr ⟨y, hy, rfl⟩), rfl⟩
  have rw' : RowsH H (out.map adr) ((out.map adr).map (rowOf H)) := ⟨(List.length_map ..).symm, fun j a r e1 e2 => by
    rw [List.getElem?_map, e1] at e2
    have := Option.some.inj e2
    obtain ⟨r', e⟩ := rows a (pb.mem_iff.mp (List.mem_of_getElem? e1))
    rw [← this, rowOf_eq e]; exact e⟩
  have pr : ((out.map adr).map (rowOf H)).Perm rs := by rw [← er]; exact pb.map _
  obtain ⟨e, he⟩ := sortedAll_at s.heap (bs.map Value.ref) out.toArray
  refine ⟨.ref (s.heap.objs.size + 1), _, I.laid (t' := s.toks) (fun _ _ q => sortedAll_old q) (Nat.le_succ _) (show ObjOk X.prog X.w _ _ _ (.lst ((out.map adr).map V.ref)) from ⟨by rw [List.length_map, pb.length_eq]; omega, out, e, ?_, he⟩), rfl, q _ _ _ pb pr rw' st (I.hok.fresh (Nat.le_succ _))⟩
  have := refs_vals (out.map adr)
  rw [← eo] at this
  exact this
variable {e : Expr} {t : TA} {p pos kpos : Pos}
def tSortedN (K : PySem.W.Frag) (t : TA) : TE := tCB (fun xs H Q => ∃ (p : Addr) (ns : List Int), xs = [.ref p] ∧ SqL K H p (ns.map V.int) ∧ ∀ (ms : List Int) l, ms.Perm ns → ms.Pairwise (· ≤ ·) → H l = none → Q (.ref l) (upd H l (.lst (ms.map V.int)))) t
def tSortedR (K : PySem.W.Frag) (t : TA) : TE := tCB (fun xs H Q => ∃ (p : Addr) (bs : List Addr) (rs : List (List Int)), xs = [.ref p] ∧ SqL K H p (bs.map V.ref) ∧ RowsH H bs rs ∧
    ∀ (cs : List Addr) (ts : List (List Int)) l, cs.Perm bs → ts.Perm rs → RowsH H cs ts → ts.Pairwise (fun r r' => HT.lexLt r' r = false) → H l = none → Q (.ref l) (upd H l (.lst (cs.map V.ref)))) t
theorem pe_sortedNX (hm : X.mg "sorted" = none) (ha : PA X [e] t) (hg : Gl X "sorted" := by rfl) (he : starEach [e] X.env = (false, eval e X.env) :: starEach [] X.env := by rfl) :
    PE X (.Call (.Name "sorted" p) [e] [] pos) (tSortedN X.K t) := pe_callB call_sortedN hg hm boot_sortedB ha (by decide) (by decide) he rfl
theorem pe_sortedRX (hu : X.A.units + 1 + 1 < cLine) (hm : X.mg "sorted" = none) (ha : PA X [e] t) (hg : Gl X "sorted" := by rfl) (he : starEach [e] X.env = (false, eval e X.env) :: starEach [] X.env := by rfl) :
    PE X (.Call (.Name "sorted" p) [e] [] pos) (tSortedR X.K t) := pe_callB (call_sortedR (by simpa [Around.in1] using hu)) hg hm boot_sortedB ha (by decide) (by decide) he rfl
end
end L2
namespace Mth
open L2 (upTo)
structure Canon (p : List Int) (rs : List (List Int)) : Prop where
  ring : ∀ r ∈ rs, ∃ x L, Mth.In p x ∧ Per p x L ∧ r = ringL p x L ∧ ∀ y ∈ r, x ≤ y
  flat : rs.flatten.Perm (upTo 0 p.length)
theorem Canon.ne {p : List Int} {rs : List (List Int)} (h : Canon p rs) : ∀ r ∈ rs, r ≠ [] := fun r hr e => by
  obtain ⟨x, L, _, pr, er, _⟩ := h.ring r hr
  have := ringL_len p x L
  rw [← er, e] at this
  have := pr.pos
  simp at *
  omega
theorem nodup_of_flat {α : Type} : ∀ {rs : List (List α)}, rs.flatten.Nodup → (∀ r ∈ rs, r ≠ []) → rs.Nodup
  | [], _, _ => List.nodup_nil
  | r :: rs, nd, ne => by
    rw [List.flatten_cons, List.nodup_append] at nd
    refine List.nodup_cons.mpr ⟨fun hm => ?_, nodup_of_flat nd.2.1 fun q hq => ne q (List.mem_cons_of_mem _ hq)⟩
    obtain ⟨x, hx⟩ := List.exists_mem_of_ne_nil r (ne r List.mem_cons_self)
    exact nd.2.2 x hx x (List.mem_flatten.mpr ⟨r, hm, hx⟩) rfl
theorem Canon.sub {p : List Int} {a b : List (List Int)} (ha : Canon p a) (hb : Canon p b) : ∀ r ∈ a, r ∈ b := fun r hr => by
  obtain ⟨x, L, hx, pr, er, lo⟩ := ha.ring r hr
  have hxf : x ∈ b.flatten := hb.flat.mem_iff.mpr (mem_upTo.mpr hx)
  obtain ⟨r2, hr2, hxr2⟩ := List.mem_flatten.mp hxf
  obtain ⟨y, M, hy, pr2, er2, lo2⟩ := hb.ring r2 hr2
  have self : x ∈ ringL p x L := mem_ringL.mpr ⟨0, pr.pos, rfl⟩
  have hyr : y ∈ ringL p x L := ring_meet pr pr2 self (by rw [← er2]; exact hxr2)
  have h1 := lo y (by rw [er]; exact hyr)
  have h2 := lo2 x hxr2
  have e : x = y := by omega
  subst e
  rw [er, pr.uniq pr2, ← er2]
  exact hr2
theorem Canon.perm {p : List Int} {a b : List (List Int)} (ha : Canon p a) (hb : Canon p b) : a.Perm b := by
  have na := nodup_of_flat (ha.flat.nodup_iff.mpr (nodup_upTo _)) ha.ne
  have nb := nodup_of_flat (hb.flat.nodup_iff.mpr (nodup_upTo _)) hb.ne
  exact (List.perm_ext_iff_of_nodup na nb).mpr fun r => ⟨ha.sub hb r, hb.sub ha r⟩
theorem canon_up {p : List Int} (t : IsT p) {rs : List (List Int)} (h : RingsUp p p.length rs) : Canon p rs := ⟨fun r hr => by
  obtain ⟨x, L, a, b, c, d, _⟩ := h.ring r hr
  exact ⟨x, L, a, b, c, d⟩, up_flat t h⟩
def LexUp (rs : List (List Int)) : Prop := rs.Pairwise fun r r' => HT.lexLt r' r = false
theorem lexUp_same : ∀ {a b : List (List Int)}, a.Perm b → LexUp a → LexUp b → a = b
  | [], b, p, _, _ => (List.Perm.nil_eq p)
  | r :: a, [], p, _, _ => absurd p.length_eq (by simp)
  | r :: a, q :: b, p, ha, hb => by
    have h1 := List.pairwise_cons.mp ha
    have h2 := List.pairwise_cons.mp hb
    have e : r = q := by
      rcases List.mem_cons.mp (p.mem_iff.mp List.mem_cons_self) with z | z
      · exact z
      · rcases List.mem_cons.mp (p.mem_iff.mpr (List.mem_cons_self : q ∈ q :: b)) with y | y
        · exact y.symm
        · have g1 := h2.1 r z
          have g2 := h1.1 q y
          rcases L2.lex_tot r q g1 with u | u
          · rw [g2] at u; cases u
          · exact u
    subst e
    rw [lexUp_same (List.Perm.cons_inv p) h1.2 h2.2]
theorem lexUp_ord {rs : List (List Int)} (ne : ∀ r ∈ rs, r ≠ []) (h : rs.Pairwise fun r s => r.getD 0 0 < s.getD 0 0) : LexUp rs := by
  refine List.Pairwise.imp_of_mem (fun {r s} hr hs lt => ?_) h
  cases r with
  | nil => exact absurd rfl (ne _ hr)
  | cons x r =>
    cases s with
    | nil => exact absurd rfl (ne _ hs)
    | cons y s =>
      have lt : x < y := lt
      rw [HT.lexLt_cons, if_neg (by omega)]
      exact decide_eq_false (by omega)
theorem rings_lex {p : List Int} (t : IsT p) {rs : List (List Int)} (h : RingsUp p p.length rs) : LexUp rs := lexUp_ord (canon_up t h).ne h.ord
theorem canon_sorted {p : List Int} (t : IsT p) {rs qs ts : List (List Int)} (h : RingsUp p p.length rs) (c : Canon p qs) (pm : ts.Perm qs) (up : LexUp ts) : ts = rs :=
  lexUp_same (pm.trans (c.perm (canon_up t h))) up (rings_lex t h)
theorem rev_ring {p b : List Int} (t : IsT p) (h : PowIs p (-1) b) {x : Int} (hx : Mth.In p x) {L : Nat} (pr : Per p x L) : (ringL p x L).reverse = ringL b (it p (L - 1) x) L := by
  have key : ∀ i, i < L → it b i (it p (L - 1) x) = it p (L - 1 - i) x := by
    intro i
    induction i with
    | zero => intro _; rfl
    | succ i ih =>
      intro hi
      show nx b (it b i (it p (L - 1) x)) = _
      rw [ih (by omega)]
      have e : L - 1 - i = (L - 1 - (i + 1)) + 1 := by omega
      have hy := it_in t hx (L - 1 - (i + 1))
      have hny := it_in t hx (L - 1 - i)
      have := back_nx' t h hny
      rw [e] at this ⊢
      exact nx_inj t this.1 hy this.2
  refine List.ext_getElem? fun i => ?_
  by_cases hi : i < L
  · rw [List.getElem?_reverse (by rw [ringL_len]; exact hi), ringL_len, ringL_get (by omega), ringL_get hi, key i hi]
  · rw [List.getElem?_eq_none (by rw [List.length_reverse, ringL_len]; omega), List.getElem?_eq_none (by rw [ringL_len]; omega)]
theorem map_ring {p s b : List Int} (tp : IsT p) (ts : IsT s) (hl : s.length = p.length) (hb : PowIs s (-1) b) {x : Int} (hx : Mth.In p x) (L : Nat) : (ringL p x L).map (nx s) = ringL (comp (comp s p) b) (nx s x) L := by
  unfold ringL
  rw [List.map_map]
  exact List.map_congr_left fun i _ => (it_conj tp ts hl hb hx i).symm
end Mth
namespace L2
open PySem PySem.Spec PyProof.Rows
variable {X : Cx}
theorem pe_revK {e st : Expr} {te : TE} {ts : TO} {p2 pos : Pos} (K : PySem.W.Frag) (he : PE X e te) (hst : PO X (some st) ts) (hK : X.K = K := by rfl) : PE X (.Subscript e (.Slice none none (some st) p2) pos) (tRev K te ts) := by
  subst hK
  exact pe_rev he hst
theorem pi_listK {tg l : Expr} {tl : TE} (K : PySem.W.Frag) (hl : PE X l tl) (hK : X.K = K := by rfl) : PI X tg l (iList K tl) := by
  subst hK
  exact pi_list hl
end L2
namespace My
open PySem L2 Mth
def top (i : Nat) : Stmt := PySem.Challenge.pw_turnroots_k12_whole_rounds_there_and_bac.main.body.getD i (.Pass ⟨0, 0, 0, 0⟩)
abbrev s_is_whole : Stmt := top 6
abbrev s_greatest_part : Stmt := top 7
abbrev s_walk_ring : Stmt := top 8
abbrev s_walk_rings : Stmt := top 9
abbrev s_send_along : Stmt := top 10
abbrev s_is_turn : Stmt := top 13
abbrev s_must_be_turn : Stmt := top 14
abbrev s_must_fit : Stmt := top 15
abbrev s_put_behind : Stmt := top 16
abbrev s_way_back : Stmt := top 17
abbrev s_power_of : Stmt := top 18
abbrev s_rounds_of : Stmt := top 20
abbrev s_kind_of : Stmt := top 21
abbrev s_home_of : Stmt := top 22
abbrev s_are_filled_lists : Stmt := top 23
abbrev s_things_in : Stmt := top 24
abbrev s_from_rounds : Stmt := top 25
abbrev s_law_pool : Stmt := top 27
abbrev s_law_take : Stmt := top 28
abbrev s_law_mixed_up : Stmt := top 29
abbrev s_law_by_lengths : Stmt := top 30
abbrev s_law_lengths : Stmt := top 31
abbrev s_law_turn : Stmt := top 32
abbrev s_law_begun : Stmt := top 33
abbrev s_law_turned_rounds : Stmt := top 34
abbrev s_law : Stmt := top 35
end My
namespace My
open PySem L2 Mth
structure Bl (mg : Str → Option Value) : Prop where
  len : mg "len" = none
  isi : mg "isinstance" = none
  int : mg "int" = none
  bool : mg "bool" = none
  list : mg "list" = none
  range : mg "range" = none
  sum : mg "sum" = none
  min : mg "min" = none
  max : mg "max" = none
  enum : mg "enumerate" = none
  zip : mg "zip" = none
  sorted : mg "sorted" = none
  tuple : mg "tuple" = none
  str : mg "str" = none
  repr : mg "repr" = none
  all : mg "all" = none
  any : mg "any" = none
  set : mg "set" = none
  dict : mg "dict" = none
  ve : mg "ValueError" = none
section
variable {P : Program} {w : World} {K : PySem.W.Frag} {mg : Str → Option Value} {base : Heap}
def spWhole (K : PySem.W.Frag) : Sp := fun vs H Q _ => ∃ x t b1 b2, vs = [x] ∧ TyOf K H x t ∧ PySem.W.kitOne K t (.type "int") = some b1 ∧ PySem.W.kitOne K t (.type "bool") = some b2 ∧ Q (.bl (b1 && !b2)) H
theorem scWhole : FnScope ["thing"] ["thing"] (defScope s_is_whole) := ⟨rfl, rfl, rfl, by decide +kernel, rfl, by decide +kernel, by decide +kernel⟩
theorem ok_whole {f : Addr} {fd : FuncData} (F : Fun K "is_whole" "is_whole" s_is_whole f fd) (B : Bl mg) : FnOk P w K mg base CX0 1 f fd ["thing"] (spWhole K) := by
  refine F.ok scWhole (fun vs H Q E h => ?_) (fun cdv A outer s H vs Q E hr h => ?_)
  · obtain ⟨x, t, b1, b2, rfl, _⟩ := h
    rfl
  · obtain ⟨x, t, b1, b2, rfl, ty, e1, e2, q⟩ := h
    refine ⟨_, pss_one (ps_ret (pe_and (pe_isi B.isi (pa_cons (pv 0) (pa_cons (pe_tyInt B.int) pa_nil))) (pe_one (pe_not (pe_isi B.isi (pa_cons (pv 0) (pa_cons (pe_tyBool B.bool) pa_nil))))))), ?_⟩
    refine ⟨x, rfl, x, "int", t, b1, rfl, ty, e1, b1, rfl, ?_⟩
    cases b1 with
    | true =>
      refine iteT ⟨x, rfl, x, "bool", t, b2, rfl, ty, e2, b2, rfl, ?_⟩
      exact q
    | false => exact iteF q
def spIsTurn : Sp := fun vs H Q _ => ∃ (a : Addr) (ns : List Int), vs = [.ref a] ∧ H a = some (.lst (ns.map V.int)) ∧ ∀ (b : Bool) (H' : Hp), Same H H' → (b = true ↔ ns.length ≤ 40 ∧ IsT ns) → Q (.bl b) H'
theorem scIsTurn : FnScope ["thing", "seen", "place"] ["thing"] (defScope s_is_turn) := ⟨rfl, rfl, rfl, by decide +kernel, rfl, by decide +kernel, by decide +kernel⟩
theorem ok_isTurn {f : Addr} {fd : FuncData} (F : Fun K "is_turn" "is_turn" s_is_turn f fd) (B : Bl mg) (mt : ∃ t, mg "MOST_THINGS" = some (.int 40 t)) (cW : Cal P w K mg base "is_whole" 1 ["thing"] (spWhole K)) : FnOk P w K mg base CX0 2 f fd ["thing"] spIsTurn := by
  refine F.ok scIsTurn (fun vs H Q E h => ?_) (fun cdv A outer s H vs Q E hr h => ?_)
  · obtain ⟨a, ns, rfl, _⟩ := h
    rfl
  · obtain ⟨a, ns, rfl, ha, k⟩ := h
    obtain ⟨tk, mt⟩ := mt
    have hu := hu_of hr
    refine ⟨_, pss_cons (ps_if (pw_or (pt_not (pt_val (pe_isi B.isi (pa_cons (pv 0) (pa_cons (pe_tyList B.list) pa_nil))))) (pw_or1 (pt_cmpR op_gt (pe_lenL B.len (pa_cons (pv 0) pa_nil)) (pe_glob (v := .int 40) (by rfl) mt ⟨tk, rfl⟩) (nomark _)))).pt (pss_one (ps_ret pe_bl)) pss_nil)
      (pss_cons (ps_set (i := 1) scIsTurn.nd rfl (Or.inl rfl) pe_dnewK)
      (pss_cons (ps_for PassesOwn.never rfl (pi_list (pv 0)) (pg_name (i := 2) scIsTurn.nd rfl (Or.inl rfl))
        (pss_cons (ps_if (pw_or (pt_not (pt_val (pe_cal cW hr (pa_cons (pv 2) pa_nil)))) (pw_or (pt_cmpR op_lt (pv 2) pe_int (nomark _)) (pw_or (pt_cmpR op_ge (pv 2) (pe_lenL B.len (pa_cons (pv 0) pa_nil)) (nomark _)) (pw_or1 (pt_cmp (pc_din hu (pv 2) (pv 1))))))).pt (pss_one (ps_ret pe_bl)) pss_nil)
        (pss_one (ps_dput hu (pv 1) (pv 2) pe_bl rfl))))
      (pss_one (ps_ret pe_bl)))), ?_⟩
    refine ⟨_, rfl, _, "list", _, true, rfl, .lst ha, kit_same K "list", true, rfl, ?_⟩
    refine iteF ⟨_, rfl, a, _, rfl, .inl (SqL.of ha), _, _, rfl, rfl, _, rfl, ?_⟩
    rw [List.length_map]
    refine ite2 (fun h40 => ?_) (fun h40 => ?_)
    · have h40 : (40 : Int) < (ns.length : Int) := of_decide_eq_true h40
      exact k false H (Same.refl H) ⟨fun z => (by cases z), fun z => (by have := z.1; omega)⟩
    · have h40 : ¬ (40 : Int) < (ns.length : Int) := fun z => h40 (decide_eq_true z)
      intro d hd
      have nad : a ≠ d := ne_of_none ha hd
      have ha1 : (upd H d (.dK [])) a = some (.lst (ns.map V.int)) := by rw [upd_ne nad]; exact ha
      refine ⟨_, rfl, a, rfl, ⟨_, SqL.of ha1⟩, for_list (K := K) (a := a) (xs := ns.map V.int) (fun i σ H2 => ∃ v : Option V, σ = [some (.ref a), some (.ref d), v] ∧ Same H H2 ∧ H2 d = some (.dK (seenK (ns.take i))) ∧ (ns.take i).Nodup ∧ ∀ x ∈ ns.take i, 0 ≤ x ∧ x < ns.length)
        ⟨none, rfl, Same.upd_new hd, upd_same, List.nodup_nil, fun x hx => by simp at hx⟩ (fun i σ H2 _ ⟨_, _, s2, _⟩ => SqL.of (s2 a _ ha)) ?_ ?_⟩
      · rintro i y σ H2 hi ⟨v, rfl, s2, h2, nd, bd⟩
        obtain ⟨z, hz, rfl⟩ := getElem_int hi
        have ha2 := s2 a _ ha
        have hil : i < ns.length := (List.getElem?_eq_some_iff.mp hz).1
        refine ⟨_, rfl, .int z, _, true, false, rfl, .int z, kit_same K "int", kit_int_bool K, _, rfl, ?_⟩
        refine iteF ⟨_, rfl, _, _, rfl, rfl, _, rfl, ?_⟩
        refine ite2 (fun hz0 => ?_) (fun hz0 => ?_)
        · have hz0 : z < 0 := of_decide_eq_true hz0
          exact iteT (k false H2 s2 ⟨fun q => (by cases q), fun q => (by have := q.2.lo z (List.mem_of_getElem? hz); omega)⟩)
        have hz0 : ¬ z < 0 := fun q => hz0 (decide_eq_true q)
        refine ⟨_, rfl, _, rfl, a, _, rfl, .inl (SqL.of ha2), _, _, rfl, rfl, _, rfl, ?_⟩
        rw [List.length_map]
        refine ite2 (fun hz1 => ?_) (fun hz1 => ?_)
        · have hz1 : (ns.length : Int) ≤ z := of_decide_eq_true hz1
          exact iteT (k false H2 s2 ⟨fun q => (by cases q), fun q => (by have := q.2.hi z (List.mem_of_getElem? hz); omega)⟩)
        have hz1 : ¬ (ns.length : Int) ≤ z := fun q => hz1 (decide_eq_true q)
        refine ⟨_, rfl, _, rfl, d, _, rfl, DGet.k (k := Sum.inl z) h2, _, rfl, ?_⟩
        by_cases hm : z ∈ ns.take i
        · rw [seenK_in hm]
          refine iteT (k false H2 s2 ⟨fun q => (by cases q), fun q => ?_⟩)
          exfalso
          obtain ⟨j, hj⟩ := List.mem_iff_getElem?.mp hm
          have hjl : j < i := by
            have := (List.getElem?_eq_some_iff.mp hj).1
            rw [List.length_take] at this
            omega
          rw [List.getElem?_take_of_lt hjl] at hj
          have e1 := (List.getElem?_eq_some_iff.mp hj).2
          have e2 := (List.getElem?_eq_some_iff.mp hz).2
          exact List.pairwise_iff_getElem.mp (List.nodup_iff_pairwise_ne.mp q.2.nd) j i (by omega) hil hjl (by rw [e1, e2])
        · rw [seenK_no hm]
          refine iteF ⟨_, rfl, _, rfl, d, _, rfl, DPut.k (k := Sum.inl z) h2 (small1000 (by unfold seenK; rw [List.length_map, List.length_take]; omega)), ?_⟩
          have hds : ∀ b o, H b = some o → b ≠ d := fun b o e => ne_of_none e hd
          refine ⟨some (.int z), rfl, fun b o e => by rw [upd_ne (hds b o e)]; exact s2 b o e, ?_, ?_, ?_⟩
          · rw [seenK_put hm, upd_same, take_succ_of hz]
          · rw [take_succ_of hz]; exact nd_snoc nd hm
          · intro x hx
            rw [take_succ_of hz] at hx
            rcases List.mem_append.mp hx with q | q
            · exact bd x q
            · have : x = z := by simpa using q
              omega
      · rintro σ H2 ⟨v, rfl, s2, h2, nd, bd⟩
        rw [List.length_map, List.take_length] at nd bd
        refine k true H2 s2 ⟨fun _ => ⟨by omega, ⟨nd, fun x hx => (bd x hx).1, fun x hx => (bd x hx).2⟩⟩, fun _ => rfl⟩
end
end My
namespace My
open PySem L2 Mth
section
variable {P : Program} {w : World} {K : PySem.W.Frag} {mg : Str → Option Value} {base : Heap}
def TurnAt (H : Hp) (a : Addr) (p : List Int) : Prop := H a = some (.lst (p.map V.int)) ∧ IsT p ∧ p.length ≤ 40
end
end My
namespace My
open PySem L2 Mth
section
variable {P : Program} {w : World} {K : PySem.W.Frag} {mg : Str → Option Value} {base : Heap}
def spMust : Sp := fun vs H Q _ => ∃ (a : Addr) (ns : List Int), vs = [.ref a] ∧ TurnAt H a ns ∧ ∀ (H' : Hp), Same H H' → Q .non H'
theorem scMust : FnScope ["thing"] ["thing"] (defScope s_must_be_turn) := ⟨rfl, rfl, rfl, by decide +kernel, rfl, by decide +kernel, by decide +kernel⟩
theorem ok_must {f : Addr} {fd : FuncData} (F : Fun K "must_be_turn" "must_be_turn" s_must_be_turn f fd) (cT : Cal P w K mg base "is_turn" 2 ["thing"] spIsTurn) : FnOk P w K mg base CX0 3 f fd ["thing"] spMust := by
  refine F.ok scMust (fun vs H Q E h => ?_) (fun cdv A outer s H vs Q E hr h => ?_)
  · obtain ⟨a, ns, rfl, _⟩ := h
    rfl
  · obtain ⟨a, ns, rfl, ⟨ha, ht, hl⟩, k⟩ := h
    refine ⟨_, pss_one (ps_if (pt_not (pt_val (pe_cal cT hr (pa_cons (pv 0) pa_nil)))) (pss_one ps_never) pss_nil), ?_⟩
    refine ⟨_, rfl, a, ns, rfl, ha, fun b H' s' hb => ⟨b, rfl, ?_⟩⟩
    have : b = true := hb.mpr ⟨hl, ht⟩
    subst this
    exact iteF (k H' s')
end
end My
namespace My
open PySem L2 Mth
section
variable {P : Program} {w : World} {K : PySem.W.Frag} {mg : Str → Option Value} {base : Heap}
def spPool (K : PySem.W.Frag) : Sp := fun vs H Q _ => ∃ (a : Addr) (ns : List Int) (k : Int), vs = [.ref a, .int k] ∧ SqL K H a (ns.map V.int) ∧ 0 ≤ k ∧ k ≤ 100 ∧ ∀ (l : Addr) (H' : Hp), H l = none → Same H H' → PoolAt H' l 4300 → Q (.ref l) H'
theorem scPool : FnScope ["script", "k", "cell"] ["script", "k"] (defScope s_law_pool) := ⟨rfl, rfl, rfl, by decide +kernel, rfl, by decide +kernel, by decide +kernel⟩
theorem ok_pool {f : Addr} {fd : FuncData} (F : Fun K "_law_pool" "_law_pool" s_law_pool f fd) (B : Bl mg) : FnOk P w K mg base CX0 1 f fd ["script", "k"] (spPool K) := by
  refine F.ok scPool (fun vs H Q E h => ?_) (fun cdv A outer s H vs Q E hr h => ?_)
  · obtain ⟨a, ns, k, rfl, _⟩ := h
    rfl
  · obtain ⟨a, ns, k, rfl, ha, k0, k1, q⟩ := h
    refine ⟨_, pss_cons (ps_set (i := 2) scPool.nd rfl (Or.inl rfl) pe_int)
      (pss_cons (ps_if (pt_cmpR op_lt (pv 1) (pe_lenL B.len (pa_cons (pv 0) pa_nil)) (nomark _)) (pss_one (ps_set (i := 2) scPool.nd rfl (Or.inl rfl) (pe_ix ix_list (pv 0) (pv 1) (fun _ _ => rfl)))) pss_nil)
      (pss_cons (ps_if (pt_cmpR op_ge (pv 2) (pe_op op_pow pe_int pe_int) (nomark _)) (pss_one (ps_ret (pe_lst (pa_cons (pe_op op_sub (pv 2) (pe_op op_pow pe_int pe_int)) (pa_cons pe_int (pa_cons pe_int pa_nil)))))) pss_nil)
      (pss_one (ps_ret (pe_lst (pa_cons (pv 2) (pa_cons pe_int (pa_cons (pe_op op_mul pe_int (pv 1)) pa_nil)))))))), ?_⟩
    refine ⟨_, rfl, _, rfl, a, _, rfl, .inl ha, _, _, rfl, rfl, _, rfl, ?_⟩
    rw [List.length_map]
    have cp : CPow 10 18 := ⟨by decide, by decide, by decide⟩
    refine ite2 (fun h => ?_) (fun h => ?_)
    · have h : k < (ns.length : Int) := of_decide_eq_true h
      refine ⟨_, rfl, _, rfl, a, _, k, _, rfl, rfl, ha, atI_map k0 h, ?_⟩
      refine ⟨_, rfl, _, _, rfl, rfl, cp, _, _, rfl, rfl, _, rfl, ?_⟩
      refine ite2 (fun h => ?_) (fun h => ?_)
      · refine ⟨_, rfl, _, _, rfl, rfl, cp, _, _, rfl, rfl, (by show 3 ≤ sizeLine; decide), fun l hl => ?_⟩
        exact q l _ hl (Same.upd_new hl) ⟨_, _, _, upd_same, by decide, by decide⟩
      · refine ⟨_, rfl, _, rfl, _, _, rfl, rfl, .inl ⟨by decide, by decide⟩, (by show 3 ≤ sizeLine; decide), fun l hl => ?_⟩
        exact q l _ hl (Same.upd_new hl) ⟨_, _, _, upd_same, by omega, by omega⟩
    · refine ⟨_, rfl, _, _, rfl, rfl, cp, _, _, rfl, rfl, _, rfl, ?_⟩
      refine ite2 (fun h => ?_) (fun h => ?_)
      · refine ⟨_, rfl, _, _, rfl, rfl, cp, _, _, rfl, rfl, (by show 3 ≤ sizeLine; decide), fun l hl => ?_⟩
        exact q l _ hl (Same.upd_new hl) ⟨_, _, _, upd_same, by decide, by decide⟩
      · refine ⟨_, rfl, _, rfl, _, _, rfl, rfl, .inl ⟨by decide, by decide⟩, (by show 3 ≤ sizeLine; decide), fun l hl => ?_⟩
        exact q l _ hl (Same.upd_new hl) ⟨_, _, _, upd_same, by omega, by omega⟩
def spTake : Sp := fun vs H Q _ => ∃ (a : Addr) (c : Nat) (m : Int), vs = [.ref a, .int m] ∧ PoolAt H a c ∧ c ≤ 1000000 ∧ 0 < m ∧ m ≤ 1000000000000000000000000000000 ∧ ∀ (r : Int) (H' : Hp), 0 ≤ r → r < m → PoolAt H' a (c + 1) → KeepBut a H H' → Q (.int r) H'
theorem scTake : FnScope ["pool", "many", "found", "step", "mark"] ["pool", "many"] (defScope s_law_take) := ⟨rfl, rfl, rfl, by decide +kernel, rfl, by decide +kernel, by decide +kernel⟩
theorem ok_take {f : Addr} {fd : FuncData} (F : Fun K "_law_take" "_law_take" s_law_take f fd) : FnOk P w K mg base CX0 1 f fd ["pool", "many"] spTake := by
  refine F.ok scTake (fun vs H Q E h => ?_) (fun cdv A outer s H vs Q E hr h => ?_)
  · obtain ⟨a, c, m, rfl, _⟩ := h
    rfl
  · obtain ⟨a, c, m, rfl, ⟨x, y, z, ha, hz, hzc⟩, hc, m0, m1, q⟩ := h
    refine ⟨_, pss_cons (ps_if (pt_cmpR op_eq (pe_ix ix_list (pv 0) pe_int (fun _ _ => rfl)) pe_int (nomark _))
        (pss_cons (ps_set (i := 2) scTake.nd rfl (Or.inl rfl) (pe_op op_mod (pe_ix ix_list (pv 0) pe_int (fun _ _ => rfl)) (pv 1)))
        (pss_cons (ps_asg (pe_op op_fdivB (pe_ix ix_list (pv 0) pe_int (fun _ _ => rfl)) (pv 1)) (pg_sub (pv 0) pe_int set_list))
        (pss_one (ps_ret (pv 2))))) pss_nil)
      (pss_cons (ps_asg (pe_op op_add (pe_ix ix_list (pv 0) pe_int (fun _ _ => rfl)) pe_int) (pg_sub (pv 0) pe_int set_list))
      (pss_cons (ps_set (i := 3) scTake.nd rfl (Or.inl rfl) (pe_ix ix_list (pv 0) pe_int (fun _ _ => rfl)))
      (pss_cons (ps_set (i := 4) scTake.nd rfl (Or.inl rfl) (pe_op op_mul (pe_op op_add (pe_op op_mod (pe_ix ix_list (pv 0) pe_int (fun _ _ => rfl)) pe_int) pe_int) (pe_op op_add (pe_op op_mul pe_int (pv 3)) pe_int)))
      (pss_cons (ps_set (i := 4) scTake.nd rfl (Or.inl rfl) (pe_op op_add (pv 4) (pe_op op_mul (pe_op op_mul pe_int (pv 3)) (pv 3))))
      (pss_cons (ps_set (i := 4) scTake.nd rfl (Or.inl rfl) (pe_op op_mod (pe_op op_mul (pv 4) (pv 4)) pe_int))
      (pss_one (ps_ret (pe_op op_mod (pe_op op_fdiv (pe_op op_mod (pe_op op_mul (pv 4) (pe_op op_add (pv 4) pe_int)) pe_int) pe_int) (pv 1))))))))), ?_⟩
    refine ⟨_, rfl, a, _, _, _, rfl, rfl, SqL.of ha, (atI_nat (j := 1) rfl), rfl, _, rfl, ?_⟩
    refine ite2 (fun h => ?_) (fun h => ?_)
    · refine ⟨_, rfl, a, _, _, _, rfl, rfl, SqL.of ha, (atI_nat (j := 0) rfl), _, rfl, _, _, rfl, rfl, m0, ?_⟩
      refine ⟨_, rfl, a, _, _, _, rfl, rfl, SqL.of ha, (atI_nat (j := 0) rfl), _, rfl, _, _, rfl, rfl, ⟨m0, m1⟩, ?_⟩
      refine ⟨_, rfl, a, _, _, 0, rfl, rfl, ha, rfl, ?_⟩
      refine ⟨_, rfl, q _ _ (Int.emod_nonneg _ (by omega)) (Int.emod_lt_of_pos _ m0) ⟨_, _, _, upd_same, hz, by omega⟩ KeepBut.upd⟩
    · refine ⟨_, rfl, a, _, _, _, rfl, rfl, SqL.of ha, (atI_nat (j := 2) rfl), _, _, rfl, rfl, ?_⟩
      refine ⟨_, rfl, a, _, _, 2, rfl, rfl, ha, rfl, ?_⟩
      have ha2 : (upd H a (.lst [.int x, .int y, .int (z + 1)])) a = some (.lst [.int x, .int y, .int (z + 1)]) := upd_same
      refine ⟨_, rfl, a, _, _, _, rfl, rfl, SqL.of ha2, (atI_nat (j := 2) rfl), ?_⟩
      have hxm : 0 ≤ x % 9999999577 ∧ x % 9999999577 < 9999999577 := ⟨Int.emod_nonneg _ (by decide), Int.emod_lt_of_pos _ (by decide)⟩
      have tb := take_bound (u := x % 9999999577 + 1009) (s := z + 1) (by omega) (by omega) (by omega) (by omega)
      have e64 : (2 : Int) ^ 64 = 18446744073709551616 := by decide
      refine ⟨_, rfl, a, _, _, _, rfl, rfl, SqL.of ha2, (atI_nat (j := 0) rfl), _, _, rfl, rfl, (by show (0 : Int) < 9999999577; decide), _, _, rfl, rfl, _, rfl, _, _, rfl, rfl, .inl ⟨by decide, by decide⟩, _, _, rfl, rfl, _, _, rfl, rfl, .inl ⟨by rw [e64]; omega, by rw [e64]; omega⟩, ?_⟩
      refine ⟨_, rfl, _, rfl, _, _, rfl, rfl, .inl ⟨by decide, by decide⟩, _, rfl, _, _, rfl, rfl, .inl ⟨by rw [e64]; omega, by rw [e64]; omega⟩, _, _, rfl, rfl, ?_⟩
      refine ⟨_, rfl, _, rfl, _, _, rfl, rfl, .inl ⟨by have := tb.1; rw [e64]; omega, tb.2⟩, _, _, rfl, rfl, (by show (0 : Int) < 99999999599; decide), ?_⟩
      refine ⟨_, rfl, _, rfl, _, _, rfl, rfl, _, _, rfl, rfl, .inl ⟨by rw [e64]; omega, by rw [e64]; omega⟩, _, _, rfl, rfl, (by show (0 : Int) < 99999999907; decide), _, _, rfl, rfl, ⟨by decide, by decide⟩, _, rfl, _, _, rfl, rfl, m0, ?_⟩
      exact q _ _ (Int.emod_nonneg _ (by omega)) (Int.emod_lt_of_pos _ m0) ⟨_, _, _, upd_same, by omega, by omega⟩ KeepBut.upd
def spMixed (K : PySem.W.Frag) : Sp := fun vs H Q _ => ∃ (a t : Addr) (c : Nat) (xs : List V), vs = [.ref a, .ref t] ∧ PoolAt H a c ∧ c + xs.length ≤ 1000000 ∧ SqL K H t xs ∧ xs.length ≤ 1000 ∧
  ∀ (l : Addr) (ys : List V) (H' : Hp), H l = none → ys.Perm xs → H' l = some (.lst ys) → PoolAt H' a (c + xs.length) → KeepBut a H H' → Q (.ref l) H'
def lenAt (H : Hp) (l : Addr) : Nat := match H l with
  | some (.lst xs) => xs.length
  | _ => 0
theorem lenAt_of {H : Hp} {l : Addr} {xs : List V} (h : H l = some (.lst xs)) : lenAt H l = xs.length := by unfold lenAt; rw [h]
theorem scMixed : FnScope ["pool", "things", "left", "found"] ["pool", "things"] (defScope s_law_mixed_up) := ⟨rfl, rfl, rfl, by decide +kernel, rfl, by decide +kernel, by decide +kernel⟩
theorem ok_mixed {f : Addr} {fd : FuncData} (F : Fun K "_law_mixed_up" "_law_mixed_up" s_law_mixed_up f fd) (B : Bl mg) (cT : Cal P w K mg base "_law_take" 1 ["pool", "many"] spTake) : FnOk P w K mg base CX0 2 f fd ["pool", "things"] (spMixed K) := by
  refine F.ok scMixed (fun vs H Q E h => ?_) (fun cdv A outer s H vs Q E hr h => ?_)
  · obtain ⟨a, t, c, xs, rfl, _⟩ := h
    rfl
  · obtain ⟨a, t, c, xs, rfl, hp, hcx, ht, hx1, q⟩ := h
    have hu := hu_of hr
    refine ⟨_, pss_cons (ps_set (i := 2) scMixed.nd rfl (Or.inl rfl) (pe_listOf B.list (pa_cons (pv 1) pa_nil)))
      (pss_cons (ps_set (i := 3) scMixed.nd rfl (Or.inl rfl) (pe_lst pa_nil))
      (pss_cons (ps_while PassesOwn.never (pt_cmpR (op_neL 0 hu) (pv 2) (pe_lst pa_nil) (nomark _))
        (pss_one (ps_expr (pe_append (pv 3) (pa_cons (pe_popAt (pv 2) (pa_cons (pe_cal cT hr (pa_cons (pv 0) (pa_cons (pe_lenL B.len (pa_cons (pv 2) pa_nil)) pa_nil))) pa_nil)) pa_nil)))))
      (pss_one (ps_ret (pv 3))))), ?_⟩
    refine ⟨_, rfl, t, xs, rfl, .inl ht, fun l hl => ?_⟩
    refine ⟨Nat.zero_le _, fun m hm => ?_⟩
    obtain ⟨px, py, pz, hpa, hpz⟩ := id hp
    have hml : m ≠ l := fun z => by rw [z, upd_same] at hm; cases hm
    have hm0 : H m = none := by rw [upd_ne hml] at hm; exact hm
    have nal : a ≠ l := ne_of_none hpa hl
    have nam : a ≠ m := ne_of_none hpa hm0
    refine while_by (fun σ H2 => ∃ ls fs, σ = [some (.ref a), some (.ref t), some (.ref l), some (.ref m)] ∧ H2 l = some (.lst ls) ∧ H2 m = some (.lst fs) ∧ (fs ++ ls).Perm xs ∧ PoolAt H2 a (c + fs.length) ∧ KeepBut a H H2) (fun σ H2 => lenAt H2 l)
      ⟨xs, [], rfl, by rw [upd_ne hml.symm, upd_same], upd_same, List.Perm.refl _, ⟨px, py, pz, by rw [upd_ne nam, upd_ne nal]; exact hpa, hpz⟩, ((KeepBut.refl a H).upd_r hl).upd_r hm0⟩ ?_ ?_
    · rintro σ H2 ⟨ls, fs, rfl, h2l, h2m, pm, ⟨x, y, z, h2a, hz0, hz1⟩, kb⟩
      refine ⟨_, rfl, Nat.zero_le _, fun e he => ?_⟩
      have nle : l ≠ e := ne_of_none h2l he
      have nme : m ≠ e := ne_of_none h2m he
      have nae : a ≠ e := ne_of_none h2a he
      refine ⟨l, e, ls, [], ls.isEmpty, rfl, rfl, SqL.of (by rw [upd_ne nle]; exact h2l), SqL.of upd_same, leq_nil _ _ _ _, _, rfl, ?_⟩
      have hlen : fs.length + ls.length = xs.length := by rw [← List.length_append]; exact pm.length_eq
      cases ls with
      | nil =>
        refine iteF ?_
        rw [List.append_nil] at pm
        refine ⟨_, rfl, ?_⟩
        have hfl : fs.length = xs.length := by simpa using hlen
        refine q m fs _ hm0 pm (by rw [upd_ne nme]; exact h2m) ⟨x, y, z, by rw [upd_ne nae]; exact h2a, hz0, by rw [← hfl]; exact hz1⟩ fun b o hb hn => ?_
        have := kb b o hb hn
        rw [upd_ne (ne_of_none this he)]
        exact this
      | cons g r =>
        refine iteT ?_
        have h3m : (upd H2 e (.lst [])) m = some (.lst fs) := by rw [upd_ne nme]; exact h2m
        have h3l : (upd H2 e (.lst [])) l = some (.lst (g :: r)) := by rw [upd_ne nle]; exact h2l
        refine ⟨_, rfl, .inl ⟨rfl, _, SqL.of h3m⟩, _, rfl, .inl ⟨rfl, _, SqL.of h3l⟩, _, rfl, _, rfl, l, _, rfl, .inl (SqL.of h3l), a, c + fs.length, _, rfl, ⟨x, y, z, by rw [upd_ne nae]; exact h2a, hz0, hz1⟩, by simp only [List.length_cons] at hlen; omega, by simp only [List.length_cons]; omega, by simp only [List.length_cons] at *; omega, ?_⟩
        intro j H4 j0 j1 ⟨x', y', z', h4a, hz0', hz1'⟩ kb4
        have h4l := kb4 l _ h3l nal.symm
        have h4m := kb4 m _ h3m nam.symm
        obtain ⟨jn, rfl⟩ := Int.eq_ofNat_of_zero_le j0
        have hjl : jn < (g :: r).length := by simp only [List.length_cons] at j1 ⊢; omega
        refine ⟨l, _, _, jn, (g :: r)[jn], rfl, rfl, h4l, by omega, by simp only [List.length_cons] at *; omega, ?_, List.getElem?_eq_getElem hjl, ?_⟩
        · have : ixN (g :: r).length (jn : Int) = some jn := by
            unfold ixN
            rw [if_pos (by omega), if_pos (by omega)]
            simp
          exact (ixN_seq this).1
        have h5m : (upd H4 l (.lst ((g :: r).eraseIdx jn))) m = some (.lst fs) := by rw [upd_ne hml]; exact h4m
        refine ⟨m, _, _, rfl, rfl, h5m, small1000 (by simp only [List.length_cons] at hlen; omega), ?_⟩
        have e5 : (upd (upd H4 l (.lst ((g :: r).eraseIdx jn))) m (.lst (fs ++ [(g :: r)[jn]]))) l = some (.lst ((g :: r).eraseIdx jn)) := by rw [upd_ne hml.symm, upd_same]
        refine ⟨⟨_, _, rfl, e5, upd_same, ?_, ⟨x', y', z', by rw [upd_ne nam, upd_ne nal]; exact h4a, hz0', by rw [List.length_append]; exact hz1'⟩, ?_⟩, ?_⟩
        · have pe := perm_erase (l := g :: r) (k := jn) (List.getElem?_eq_getElem hjl)
          refine List.Perm.trans ?_ pm
          rw [List.append_assoc]
          exact List.Perm.append_left fs pe
        · intro b o hb hn
          have b2 := kb b o hb hn
          have b3 : (upd H2 e (.lst [])) b = some o := by rw [upd_ne (ne_of_none b2 he)]; exact b2
          have b4 := kb4 b o b3 hn
          rw [upd_ne (ne_of_none hb hm0), upd_ne (ne_of_none hb hl)]
          exact b4
        · rw [lenAt_of e5, lenAt_of h2l, List.length_eraseIdx_of_lt hjl]
          simp only [List.length_cons] at *
          omega
    · rintro σ H2 Q Q' hq ⟨v, hv, h1, h2⟩
      refine ⟨v, hv, h1, fun e he => ?_⟩
      obtain ⟨a1, b1, xs1, ys1, r1, e1, e2, e3, e4, e5, k1, e6, e7⟩ := h2 e he
      exact ⟨a1, b1, xs1, ys1, r1, e1, e2, e3, e4, e5, k1, e6, hq _ _ e7⟩
end
end My
namespace My
open PySem L2 Mth
section
variable {P : Program} {w : World} {K : PySem.W.Frag} {mg : Str → Option Value} {base : Heap}
def spLengths : Sp := fun vs H Q _ => ∃ (a : Addr) (c : Nat) (n : Int), vs = [.ref a, .int n] ∧ PoolAt H a c ∧ 0 ≤ n ∧ n ≤ 100 ∧ c ≤ 900000 ∧
  ∀ (l : Addr) (ls : List Int) (H' : Hp), H l = none → (∀ x ∈ ls, 1 ≤ x) → ls.sum = n → H' l = some (.lst (ls.map V.int)) → PoolAt H' a (c + 110) → KeepBut a H H' → Q (.ref l) H'
theorem scLengths : FnScope ["pool", "many", "way", "like", "found", "left", "most", "length"] ["pool", "many"] (defScope s_law_lengths) := ⟨rfl, rfl, rfl, by decide +kernel, rfl, by decide +kernel, by decide +kernel⟩
def leftOf (σ : St) : Nat := match σ[5]? with
  | some (some (V.int i)) => i.toNat
  | _ => 0
theorem ok_lengths {f : Addr} {fd : FuncData} (F : Fun K "_law_lengths" "_law_lengths" s_law_lengths f fd) (B : Bl mg) (cT : Cal P w K mg base "_law_take" 1 ["pool", "many"] spTake) : FnOk P w K mg base CX0 2 f fd ["pool", "many"] spLengths := by
  refine F.ok scLengths (fun vs H Q E h => ?_) (fun cdv A outer s H vs Q E hr h => ?_)
  · obtain ⟨a, c, n, rfl, _⟩ := h
    rfl
  · obtain ⟨a, c, n, rfl, hp, n0, n1, hc, q⟩ := h
    refine ⟨_, pss_cons (ps_set (i := 2) scLengths.nd rfl (Or.inl rfl) (pe_cal cT hr (pa_cons (pv 0) (pa_cons pe_int pa_nil))))
      (pss_cons (ps_set (i := 3) scLengths.nd rfl (Or.inl rfl) (pe_op op_add pe_int (pe_cal cT hr (pa_cons (pv 0) (pa_cons pe_int pa_nil)))))
      (pss_cons (ps_set (i := 4) scLengths.nd rfl (Or.inl rfl) (pe_lst pa_nil))
      (pss_cons (ps_set (i := 5) scLengths.nd rfl (Or.inl rfl) (pv 1))
      (pss_cons (ps_while PassesOwn.never (pt_cmpR op_gt (pv 5) pe_int (nomark _))
        (pss_cons (ps_set (i := 6) scLengths.nd rfl (Or.inl rfl) (pe_ix ix_list (pe_lst (pa_cons (pv 5) (pa_cons (pe_min2 rfl B.min (pa_cons (pv 5) (pa_cons pe_int pa_nil))) (pa_cons (pe_min2 rfl B.min (pa_cons (pv 5) (pa_cons (pv 3) pa_nil))) (pa_cons (pv 5) pa_nil))))) (pv 2) (fun _ _ => rfl)))
        (pss_cons (ps_if (pt_cmpR op_eq (pv 2) pe_int (nomark _)) (pss_one (ps_set (i := 7) scLengths.nd rfl (Or.inl rfl) (pv 6))) (pss_one (ps_set (i := 7) scLengths.nd rfl (Or.inl rfl) (pe_op op_add pe_int (pe_cal cT hr (pa_cons (pv 0) (pa_cons (pv 6) pa_nil)))))))
        (pss_cons (ps_expr (pe_append (pv 4) (pa_cons (pv 7) pa_nil)))
        (pss_one (ps_set (i := 5) scLengths.nd rfl (Or.inl rfl) (pe_op op_sub (pv 5) (pv 7))))))))
      (pss_one (ps_ret (pv 4))))))), ?_⟩
    refine ⟨_, rfl, a, c, 4, rfl, hp, by omega, by decide, by decide, fun way H1 w0 w1 p1 kb1 => ?_⟩
    refine ⟨_, rfl, a, c + 1, 6, rfl, p1, by omega, by decide, by decide, fun lk H2 l0 l1 p2 kb2 => ⟨_, _, rfl, rfl, ?_⟩⟩
    refine ⟨Nat.zero_le _, fun m hm => ?_⟩
    obtain ⟨x2, y2, z2, h2a, hz2, hz2'⟩ := id p2
    have nam : a ≠ m := ne_of_none h2a hm
    have kb02 : KeepBut a H H2 := kb1.trans kb2
    have hm0 : H m = none := by
      cases e : H m with
      | none => rfl
      | some o => have := kb02 m o e nam.symm; rw [hm] at this; cases this
    refine ⟨_, rfl, ?_⟩
    refine while_by (fun σ H3 => ∃ (ls : List Int) (lf : Int) (v6 v7 : Option V), σ = [some (.ref a), some (.int n), some (.int way), some (.int (1 + lk)), some (.ref m), some (.int lf), v6, v7] ∧ H3 m = some (.lst (ls.map V.int)) ∧ (∀ x ∈ ls, 1 ≤ x) ∧ ls.sum + lf = n ∧ 0 ≤ lf ∧ PoolAt H3 a (c + 2 + ls.length) ∧ KeepBut a H H3) (fun σ _ => leftOf σ)
      ⟨[], n, none, none, rfl, upd_same, fun x hx => by simp at hx, by simp, n0, ⟨x2, y2, z2, by rw [upd_ne nam]; exact h2a, hz2, by simp only [List.length_nil]; omega⟩, kb02.upd_r hm0⟩ ?_ ?_
    · rintro σ H3 ⟨ls, lf, v6, v7, rfl, h3m, hge, hsum, lf0, ⟨x, y, z, h3a, hz0, hz1⟩, kb⟩
      have hll := len_le_sum hge
      refine ⟨_, rfl, _, _, rfl, rfl, _, rfl, ?_⟩
      refine ite2 (fun h => ?_) (fun h => ?_)
      · have h : 0 < lf := of_decide_eq_true h
        refine ⟨_, rfl, _, rfl, lf, 6, rfl, _, rfl, _, rfl, lf, 1 + lk, rfl, _, rfl, (by show 4 ≤ sizeLine; decide), fun e he => ?_⟩
        have nme : m ≠ e := ne_of_none h3m he
        have nae : a ≠ e := ne_of_none h3a he
        have key : ∃ mv, atI [V.int lf, V.int (if (6 : Int) < lf then 6 else lf), V.int (if 1 + lk < lf then 1 + lk else lf), V.int lf] way = some (.int mv) ∧ 1 ≤ mv ∧ mv ≤ lf := by
          have : way = 0 ∨ way = 1 ∨ way = 2 ∨ way = 3 := by omega
          rcases this with rfl | rfl | rfl | rfl
          · exact ⟨lf, atI_nat (j := 0) rfl, by omega, by omega⟩
          · exact ⟨_, atI_nat (j := 1) rfl, by split <;> omega, by split <;> omega⟩
          · exact ⟨_, atI_nat (j := 2) rfl, by split <;> omega, by split <;> omega⟩
          · exact ⟨lf, atI_nat (j := 3) rfl, by omega, by omega⟩
        obtain ⟨mv, hat, mv1, mv2⟩ := key
        refine ⟨_, rfl, e, _, way, _, rfl, rfl, SqL.of upd_same, hat, ?_⟩
        have h4m : (upd H3 e (.lst [V.int lf, V.int (if (6 : Int) < lf then 6 else lf), V.int (if 1 + lk < lf then 1 + lk else lf), V.int lf])) m = some (.lst (ls.map V.int)) := by rw [upd_ne nme]; exact h3m
        have h4a : (upd H3 e (.lst [V.int lf, V.int (if (6 : Int) < lf then 6 else lf), V.int (if 1 + lk < lf then 1 + lk else lf), V.int lf])) a = some (.lst [.int x, .int y, .int z]) := by rw [upd_ne nae]; exact h3a
        have kb4 : KeepBut a H (upd H3 e (.lst [V.int lf, V.int (if (6 : Int) < lf then 6 else lf), V.int (if 1 + lk < lf then 1 + lk else lf), V.int lf])) := fun b o hb hn => by
          have := kb b o hb hn
          rw [upd_ne (ne_of_none this he)]; exact this
        generalize upd H3 e (.lst [V.int lf, V.int (if (6 : Int) < lf then 6 else lf), V.int (if 1 + lk < lf then 1 + lk else lf), V.int lf]) = H4 at h4m h4a kb4 ⊢
        have done : ∀ (len : Int) (H5 : Hp), 1 ≤ len → len ≤ lf → H5 m = some (.lst (ls.map V.int)) → PoolAt H5 a (c + 2 + ls.length + 1) → KeepBut a H H5 →
            (∃ (ls' : List Int) (lf' : Int) (v6 v7 : Option V), [some (.ref a), some (.int n), some (.int way), some (.int (1 + lk)), some (.ref m), some (.int (lf - len)), some (.int mv), some (.int len)] = [some (.ref a), some (.int n), some (.int way), some (.int (1 + lk)), some (.ref m), some (.int lf'), v6, v7] ∧ (upd H5 m (.lst (ls.map V.int ++ [.int len]))) m = some (.lst (ls'.map V.int)) ∧ (∀ x ∈ ls', 1 ≤ x) ∧ ls'.sum + lf' = n ∧ 0 ≤ lf' ∧ PoolAt (upd H5 m (.lst (ls.map V.int ++ [.int len]))) a (c + 2 + ls'.length) ∧ KeepBut a H (upd H5 m (.lst (ls.map V.int ++ [.int len])))) := by
          intro len H5 g1 g2 h5m ⟨x5, y5, z5, h5a, h5z, h5z'⟩ kb5
          refine ⟨ls ++ [len], lf - len, _, _, rfl, by rw [upd_same, List.map_append]; rfl, fun x hx => ?_, by rw [sum_snoc]; omega, by omega, ⟨x5, y5, z5, by rw [upd_ne nam]; exact h5a, h5z, by rw [List.length_append]; simpa [Nat.add_assoc] using h5z'⟩, fun b o hb hn => by rw [upd_ne (ne_of_none hb hm0)]; exact kb5 b o hb hn⟩
          rcases List.mem_append.mp hx with g | g
          · exact hge x g
          · have : x = len := by simpa using g
            omega
        refine ⟨_, rfl, rfl, _, rfl, ?_⟩
        refine ite2 (fun hw => ?_) (fun hw => ?_)
        · refine ⟨_, rfl, _, rfl, .inl ⟨rfl, _, SqL.of h4m⟩, _, rfl, m, _, _, rfl, rfl, h4m, small1000 (by rw [List.length_map]; omega), ?_⟩
          refine ⟨_, rfl, _, rfl, _, _, rfl, rfl, done mv H4 mv1 mv2 h4m ⟨x, y, z, h4a, hz0, by omega⟩ kb4, ?_⟩
          show (lf - mv).toNat < lf.toNat
          omega
        · refine ⟨_, rfl, _, rfl, a, c + 2 + ls.length, mv, rfl, ⟨x, y, z, h4a, hz0, hz1⟩, by omega, by omega, by omega, fun r H5 r0 r1 p5 kb5 => ⟨_, _, rfl, rfl, ?_⟩⟩
          have h5m := kb5 m _ h4m nam.symm
          refine ⟨_, rfl, .inl ⟨rfl, _, SqL.of h5m⟩, _, rfl, m, _, _, rfl, rfl, h5m, small1000 (by rw [List.length_map]; omega), ?_⟩
          refine ⟨_, rfl, _, rfl, _, _, rfl, rfl, done (1 + r) H5 (by omega) (by omega) h5m p5 (kb4.trans kb5), ?_⟩
          show (lf - (1 + r)).toNat < lf.toNat
          omega
      · have h : ¬ 0 < lf := fun z => h (decide_eq_true z)
        have : lf = 0 := by omega
        refine ⟨_, rfl, q m ls H3 hm0 hge (by omega) h3m ⟨x, y, z, h3a, hz0, by omega⟩ kb⟩
    · rintro σ H3 Q Q' hq ⟨v, hv, i, j, e1, e2, k1, e3, e4⟩
      exact ⟨v, hv, i, j, e1, e2, k1, e3, hq _ _ e4⟩
def spByLen : Sp := fun vs H Q _ => ∃ (a t : Addr) (c : Nat) (ls : List Int), vs = [.ref a, .ref t] ∧ PoolAt H a c ∧ t ≠ a ∧ H t = some (.lst (ls.map V.int)) ∧ (∀ x ∈ ls, 1 ≤ x) ∧ ls.sum ≤ 100 ∧ c ≤ 900000 ∧
  ∀ (l : Addr) (ps : List Int) (H' : Hp), H l = none → ps.Perm (upTo 0 ls.sum.toNat) → H' l = some (.lst (ps.map V.int)) → PoolAt H' a (c + 110) → KeepBut a H H' → Q (.ref l) H'
theorem scByLen : FnScope ["pool", "lengths", "things", "found", "at", "length", "k"] ["pool", "lengths"] (defScope s_law_by_lengths) := ⟨rfl, rfl, rfl, by decide +kernel, rfl, by decide +kernel, by decide +kernel⟩
theorem ok_byLen {f : Addr} {fd : FuncData} (F : Fun K "_law_by_lengths" "_law_by_lengths" s_law_by_lengths f fd) (B : Bl mg) (cM : Cal P w K mg base "_law_mixed_up" 2 ["pool", "things"] (spMixed K)) : FnOk P w K mg base CX0 3 f fd ["pool", "lengths"] spByLen := by
  refine F.ok scByLen (fun vs H Q E h => ?_) (fun cdv A outer s H vs Q E hr h => ?_)
  · obtain ⟨a, t, c, ls, rfl, _⟩ := h
    rfl
  · obtain ⟨a, t, c, ls, rfl, hp, nta, ht, hge, hs, hc, q⟩ := h
    have hsum := (sum_take_le hge 0).2
    have hs0 : 0 ≤ ls.sum := by simpa using hsum
    refine ⟨_, pss_cons (ps_set (i := 2) scByLen.nd rfl (Or.inl rfl) (pe_cal cM hr (pa_cons (pv 0) (pa_cons (pe_listRng rfl B.list B.range (pa_cons (pe_sum rfl B.sum (pa_cons (pv 1) pa_nil)) pa_nil)) pa_nil))))
      (pss_cons (ps_set (i := 3) scByLen.nd rfl (Or.inl rfl) (pe_op op_rep (pe_lst (pa_cons pe_int pa_nil)) (pe_lenL B.len (pa_cons (pv 2) pa_nil))))
      (pss_cons (ps_set (i := 4) scByLen.nd rfl (Or.inl rfl) pe_int)
      (pss_cons (ps_for PassesOwn.never rfl (pi_list (pv 1)) (pg_name (i := 5) scByLen.nd rfl (Or.inl rfl))
        (pss_cons (ps_for PassesOwn.never rfl (pi_range1 rfl B.range (pa_cons (pv 5) pa_nil)) (pg_name (i := 6) scByLen.nd rfl (Or.inl rfl))
          (pss_one (ps_asg (pe_ix ix_list (pv 2) (pe_op op_add (pv 4) (pe_op op_mod (pe_op op_add (pv 6) pe_int) (pv 5))) (fun _ _ => rfl)) (pg_sub (pv 3) (pe_ix ix_list (pv 2) (pe_op op_add (pv 4) (pv 6)) (fun _ _ => rfl)) set_list))))
        (pss_one (ps_set (i := 4) scByLen.nd rfl (Or.inl rfl) (pe_op op_add (pv 4) (pv 5))))))
      (pss_one (ps_ret (pv 3)))))), ?_⟩
    refine ⟨_, rfl, _, rfl, t, ls, rfl, SqL.of ht, _, rfl, fun r hr' => ⟨r, 0, ls.sum, rfl, upd_same, ⟨by decide, by decide, by omega, by omega⟩, by omega, fun g hg => ?_⟩⟩
    obtain ⟨x1, y1, z1, h1a, hz1, hz1'⟩ := id hp
    have nar : a ≠ r := ne_of_none h1a hr'
    have hgr : g ≠ r := fun z => by rw [z, upd_same] at hg; cases hg
    have hg0 : H g = none := by rw [upd_ne hgr] at hg; exact hg
    have nag : a ≠ g := ne_of_none h1a hg0
    refine ⟨a, g, c, (upTo 0 (ls.sum - 0).toNat).map V.int, rfl, ⟨x1, y1, z1, by rw [upd_ne nag, upd_ne nar]; exact h1a, hz1, hz1'⟩, by rw [List.length_map, length_upTo]; omega, SqL.of upd_same, by rw [List.length_map, length_upTo]; omega, ?_⟩
    intro m ys H1 hm hperm h1m p1 kb1
    have e0 : (ls.sum - 0).toNat = ls.sum.toNat := by rw [Int.sub_zero]
    rw [e0] at hperm p1
    rw [List.length_map, length_upTo] at p1
    have hmg : m ≠ g := fun z => by rw [z, upd_same] at hm; cases hm
    have hmr : m ≠ r := fun z => by rw [z, upd_ne hgr.symm, upd_same] at hm; cases hm
    have hm0 : H m = none := by rw [upd_ne hmg, upd_ne hmr] at hm; exact hm
    obtain ⟨ts, rfl, hts⟩ := perm_ints hperm
    obtain ⟨hT, hTl⟩ := isT_of_perm hts
    have s0 : Same H (upd (upd H r (.rng 0 ls.sum)) g (.lst ((upTo 0 (ls.sum - 0).toNat).map V.int))) := (Same.upd_new hr').upd_r hg0
    have kb01 : KeepBut a H H1 := fun b o hb hn => kb1 b o (s0 b o hb) hn
    have nam : a ≠ m := ne_of_none h1a hm0
    refine ⟨(by show 1 ≤ sizeLine; decide), fun e he => ?_⟩
    have nme : m ≠ e := ne_of_none h1m he
    refine ⟨_, rfl, m, _, rfl, .inl (SqL.of (by rw [upd_ne nme]; exact h1m)), ?_⟩
    rw [List.length_map, hTl]
    refine ⟨e, _, _, rfl, rfl, upd_same, by omega, by omega, by show 1 * _ ≤ sizeLine; rw [sizeLine_eq]; omega, fun n hn => ?_⟩
    have hne : n ≠ e := fun z => by rw [z, upd_same] at hn; cases hn
    have hn1 : H1 n = none := by rw [upd_ne hne] at hn; exact hn
    have hnm : n ≠ m := fun z => by rw [z, h1m] at hn1; cases hn1
    obtain ⟨x2, y2, z2, h2a, hz2, hz2'⟩ := id p1
    have nan : a ≠ n := ne_of_none h2a hn1
    have nae : a ≠ e := ne_of_none h2a he
    have hn0 : H n = none := by
      cases ee : H n with
      | none => rfl
      | some o => have := kb01 n o ee nan.symm; rw [hn1] at this; cases this
    have he0 : H e = none := by
      cases ee : H e with
      | none => rfl
      | some o => have := kb01 e o ee nae.symm; rw [he] at this; cases this
    rw [show ((ls.sum.toNat : Nat) : Int).toNat = ls.sum.toNat by omega, rep_zero]
    have ht1 := kb01 t _ ht nta
    have nte : t ≠ e := ne_of_none ht1 he
    have ntn : t ≠ n := ne_of_none ht1 hn1
    refine ⟨_, rfl, t, rfl, ⟨ls.map V.int, ?ht2⟩, for_list (K := K) (a := t) (xs := ls.map V.int) (fun i σ H2 => ∃ (fs qs : List Int) (k : Nat) (v5 v6 : Option V), σ = [some (.ref a), some (.ref t), some (.ref m), some (.ref n), some (.int k), v5, v6] ∧ (k : Int) = (ls.take i).sum ∧ H2 n = some (.lst (fs.map V.int)) ∧ H2 m = some (.lst (ts.map V.int)) ∧ fs.length = ts.length ∧ qs.Perm (ts.take k) ∧ (ts.take k).map (at0 fs) = qs.map some ∧ PoolAt H2 a (c + ls.sum.toNat) ∧ KeepBut a H H2)
      ?h0 (fun i σ H2 _ ⟨_, _, _, _, _, _, _, _, _, _, _, _, _, h⟩ => SqL.of (h t _ ht nta)) ?_ ?_⟩
    case ht2 =>
      exact SqL.of (by rw [upd_ne ntn, upd_ne nte]; exact ht1)
    case h0 =>
      refine ⟨_, [], 0, none, none, rfl, by simp, upd_same, by rw [upd_ne hnm.symm, upd_ne nme]; exact h1m, by rw [List.length_replicate, hTl], List.Perm.refl _, rfl, ⟨x2, y2, z2, by rw [upd_ne nan, upd_ne nae]; exact h2a, hz2, hz2'⟩, (kb01.upd_r he0).upd_r hn0⟩
    · rintro i y σ H2 hi ⟨fs, qs, k, v5, v6, rfl, hk, h2n, h2m, hfl, hq, hmap, p2, kb2⟩
      obtain ⟨L, hL, rfl⟩ := getElem_int hi
      have hL1 := hge L (List.mem_of_getElem? hL)
      have hsL := (sum_take_le hge (i + 1)).2
      rw [take_succ_of hL, sum_snoc] at hsL
      have hkL : k + L.toNat ≤ ts.length := by omega
      have hLn : ((L.toNat : Nat) : Int) = L := by omega
      refine ⟨_, rfl, L, rfl, by omega, by omega, for_range (lo := 0) (n := L.toNat) (fun j σ H3 => ∃ (fs' : List Int) (v6' : Option V), σ = [some (.ref a), some (.ref t), some (.ref m), some (.ref n), some (.int k), some (.int L), v6'] ∧ H3 n = some (.lst (fs'.map V.int)) ∧ H3 m = some (.lst (ts.map V.int)) ∧ fs'.length = ts.length ∧ (ts.take k).map (at0 fs') = qs.map some ∧ (∀ u, u < j → at0 fs' (ts.getD (k + u) 0) = some (ts.getD (k + (u + 1) % L.toNat) 0)) ∧ PoolAt H3 a (c + ls.sum.toNat) ∧ KeepBut a H H3)
        ⟨fs, v6, rfl, h2n, h2m, hfl, hmap, fun u hu => by omega, p2, kb2⟩ ?_ ?_⟩
      · rintro j σ H3 hj ⟨fs', v6', rfl, h3n, h3m, hfl', hmap', hu', p3, kb3⟩
        have hjm : (j + 1) % L.toNat < L.toNat := Nat.mod_lt _ (by omega)
        have hi1 : k + j < ts.length := by omega
        have hi2 : k + (j + 1) % L.toNat < ts.length := by omega
        have ej : (k : Int) + ((0 : Int) + (j : Int) + 1) % L = ((k + (j + 1) % L.toNat : Nat) : Int) := by
          have e1 : (0 : Int) + (j : Int) + 1 = ((j + 1 : Nat) : Int) := by omega
          have e2 : ((j + 1 : Nat) : Int) % L = (((j + 1) % L.toNat : Nat) : Int) := by
            rw [Int.natCast_emod, hLn]
          rw [e1, e2]
          omega
        have hat1 : atI (ts.map V.int) ((k : Int) + ((0 : Int) + (j : Int) + 1) % L) = some (.int (ts.getD (k + (j + 1) % L.toNat) 0)) := by
          rw [ej]
          have := atI_map (p := ts) (i := ((k + (j + 1) % L.toNat : Nat) : Int)) (by omega) (by omega)
          rw [Int.toNat_natCast] at this
          exact this
        have hat2 : atI (ts.map V.int) ((k : Int) + ((0 : Int) + (j : Int))) = some (.int (ts.getD (k + j) 0)) := by
          have e : (k : Int) + ((0 : Int) + (j : Int)) = ((k + j : Nat) : Int) := by omega
          rw [e]
          have := atI_map (p := ts) (i := ((k + j : Nat) : Int)) (by omega) (by omega)
          rw [Int.toNat_natCast] at this
          exact this
        refine ⟨_, rfl, _, rfl, _, rfl, _, _, rfl, rfl, _, rfl, _, _, rfl, rfl, hL1, _, _, rfl, rfl, m, _, _, _, rfl, rfl, SqL.of h3m, hat1, ?_⟩
        refine ⟨_, rfl, _, rfl, _, rfl, _, rfl, _, _, rfl, rfl, m, _, _, _, rfl, rfl, SqL.of h3m, hat2, ?_⟩
        have htv : ts.getD (k + j) 0 ∈ ts := by rw [getD_eq hi1]; exact List.getElem_mem hi1
        have t0 := hT.lo _ htv
        have t1 := hT.hi _ htv
        refine ⟨n, _, _, (ts.getD (k + j) 0).toNat, rfl, rfl, h3n, ?_, ?_⟩
        · unfold ixN
          rw [List.length_map, if_pos t0, if_pos (by omega)]
        obtain ⟨x3, y3, z3, h3a, hz3, hz3'⟩ := id p3
        have es : (fs'.map V.int).set (ts.getD (k + j) 0).toNat (.int (ts.getD (k + (j + 1) % L.toNat) 0)) = (fs'.set (ts.getD (k + j) 0).toNat (ts.getD (k + (j + 1) % L.toNat) 0)).map V.int := by rw [List.map_set]
        rw [es]
        refine ⟨_, _, rfl, upd_same, by rw [upd_ne hnm.symm]; exact h3m, by rw [List.length_set]; exact hfl', ?_, ?_, ⟨x3, y3, z3, by rw [upd_ne nan]; exact h3a, hz3, hz3'⟩, fun b o hb hnn => by rw [upd_ne (ne_of_none hb hn0)]; exact kb3 b o hb hnn⟩
        · rw [← hmap']
          refine List.map_congr_left fun u hu => ?_
          have hut := List.mem_of_mem_take hu
          refine at0_ne (hT.lo u hut) t0 fun z => ?_
          obtain ⟨jj, hjj⟩ := List.mem_iff_getElem?.mp hu
          have hjk : jj < k := by
            have := (List.getElem?_eq_some_iff.mp hjj).1
            rw [List.length_take] at this
            omega
          rw [List.getElem?_take_of_lt hjk] at hjj
          have := (List.getElem?_eq_some_iff.mp hjj).2
          exact nodup_getD hT.nd (i := jj) (j := k + j) (by omega) hi1 (by omega) (by rw [getD_eq (show jj < ts.length by omega), this]; exact z)
        · intro u hu
          by_cases huj : u = j
          · subst huj
            exact at0_same (by omega)
          · have huj' : u < j := by omega
            rw [at0_ne (hT.lo _ (by rw [getD_eq (show k + u < ts.length by omega)]; exact List.getElem_mem _)) t0 (nodup_getD hT.nd (by omega) hi1 (by omega))]
            exact hu' u huj'
      · rintro σ H3 ⟨fs', v6', rfl, h3n, h3m, hfl', hmap', hu', p3, kb3⟩
        obtain ⟨qs', hq', hmap''⟩ := seg_done (by omega) hkL hmap' hq hu'
        refine ⟨_, rfl, _, rfl, _, _, rfl, rfl, fs', qs', k + L.toNat, some (.int L), v6', ?_, ?_, h3n, h3m, hfl', hq', hmap'', p3, kb3⟩
        · rw [show ((k + L.toNat : Nat) : Int) = (k : Int) + L by omega]; rfl
        · rw [take_succ_of hL, sum_snoc]; omega
    · rintro σ H2 ⟨fs, qs, k, v5, v6, rfl, hk, h2n, h2m, hfl, hq, hmap, ⟨x2', y2', z2', p2a, p2z, p2z'⟩, kb2⟩
      rw [List.length_map, List.take_length] at hk
      have hkl : k = ts.length := by omega
      rw [hkl, List.take_length] at hq hmap
      have := (perm_along hT hfl hmap).trans (hq.trans hts)
      exact ⟨_, rfl, q n fs H2 hn0 this h2n ⟨x2', y2', z2', p2a, p2z, by omega⟩ kb2⟩
def spTurn : Sp := fun vs H Q _ => ∃ (a : Addr) (c : Nat) (m : Int), vs = [.ref a, .int m] ∧ PoolAt H a c ∧ 0 ≤ m ∧ m ≤ 40 ∧ c ≤ 800000 ∧
  ∀ (l : Addr) (p : List Int) (H' : Hp), H l = none → IsT p → (p.length : Int) ≤ m → H' l = some (.lst (p.map V.int)) → PoolAt H' a (c + 300) → KeepBut a H H' → Q (.ref l) H'
theorem scTurn : FnScope ["pool", "most", "many"] ["pool", "most"] (defScope s_law_turn) := ⟨rfl, rfl, rfl, by decide +kernel, rfl, by decide +kernel, by decide +kernel⟩
theorem ok_turn {f : Addr} {fd : FuncData} (F : Fun K "_law_turn" "_law_turn" s_law_turn f fd) (B : Bl mg) (cT : Cal P w K mg base "_law_take" 1 ["pool", "many"] spTake) (cM : Cal P w K mg base "_law_mixed_up" 2 ["pool", "things"] (spMixed K))
    (cB : Cal P w K mg base "_law_by_lengths" 3 ["pool", "lengths"] spByLen) (cL : Cal P w K mg base "_law_lengths" 2 ["pool", "many"] spLengths) : FnOk P w K mg base CX0 4 f fd ["pool", "most"] spTurn := by
  refine F.ok scTurn (fun vs H Q E h => ?_) (fun cdv A outer s H vs Q E hr h => ?_)
  · obtain ⟨a, c, m, rfl, _⟩ := h
    rfl
  · obtain ⟨a, c, m, rfl, hp, m0, m1, hc, q⟩ := h
    have hr1 : Room 1 _ := hr.mono (by decide)
    have hr2 : Room 2 _ := hr.mono (by decide)
    refine ⟨_, pss_cons (ps_set (i := 2) scTurn.nd rfl (Or.inl rfl) (pe_ix ix_list (pe_lst (pa_cons (pe_cal cT hr1 (pa_cons (pv 0) (pa_cons (pe_op op_add (pe_min2 rfl B.min (pa_cons (pv 1) (pa_cons pe_int pa_nil))) pe_int) pa_nil))) (pa_cons (pe_cal cT hr1 (pa_cons (pv 0) (pa_cons (pe_op op_add (pv 1) pe_int) pa_nil))) (pa_cons (pv 1) pa_nil)))) (pe_cal cT hr1 (pa_cons (pv 0) (pa_cons pe_int pa_nil))) (fun _ _ => rfl)))
      (pss_cons (ps_if (pt_cmpR op_eq (pe_cal cT hr1 (pa_cons (pv 0) (pa_cons pe_int pa_nil))) pe_int (nomark _)) (pss_one (ps_ret (pe_cal cM hr2 (pa_cons (pv 0) (pa_cons (pe_listRng rfl B.list B.range (pa_cons (pv 2) pa_nil)) pa_nil))))) pss_nil)
      (pss_one (ps_ret (pe_cal cB hr (pa_cons (pv 0) (pa_cons (pe_cal cL hr2 (pa_cons (pv 0) (pa_cons (pv 2) pa_nil))) pa_nil)))))), ?_⟩
    refine ⟨_, rfl, _, rfl, m, 9, rfl, _, _, rfl, rfl, a, c, _, rfl, hp, by omega, by split <;> omega, by split <;> omega, fun r1 H1 r10 r11 p1 kb1 => ?_⟩
    refine ⟨_, rfl, _, rfl, _, _, rfl, rfl, a, c + 1, _, rfl, p1, by omega, by omega, by omega, fun r2 H2 r20 r21 p2 kb2 => ?_⟩
    refine ⟨_, rfl, (by show 3 ≤ sizeLine; decide), fun e he => ?_⟩
    obtain ⟨x2, y2, z2, h2a, hz2, hz2'⟩ := id p2
    have nae : a ≠ e := ne_of_none h2a he
    have kb02 : KeepBut a H H2 := kb1.trans kb2
    have he0 : H e = none := by
      cases ee : H e with
      | none => rfl
      | some o => have := kb02 e o ee nae.symm; rw [he] at this; cases this
    refine ⟨_, rfl, a, c + 2, 3, rfl, ⟨x2, y2, z2, by rw [upd_ne nae]; exact h2a, hz2, by omega⟩, by omega, by decide, by decide, fun r3 H3 r30 r31 p3 kb3 => ?_⟩
    have h3e := kb3 e _ upd_same nae.symm
    have kb03 : KeepBut a H H3 := (kb02.upd_r he0).trans kb3
    have key : ∃ mv, atI [V.int r1, V.int r2, V.int m] r3 = some (.int mv) ∧ 0 ≤ mv ∧ mv ≤ m := by
      have : r3 = 0 ∨ r3 = 1 ∨ r3 = 2 := by omega
      rcases this with rfl | rfl | rfl
      · exact ⟨r1, atI_nat (j := 0) rfl, r10, by revert r11; split <;> omega⟩
      · exact ⟨r2, atI_nat (j := 1) rfl, r20, by omega⟩
      · exact ⟨m, atI_nat (j := 2) rfl, m0, by omega⟩
    obtain ⟨mv, hat, mv0, mv1⟩ := key
    refine ⟨e, _, _, _, rfl, rfl, SqL.of h3e, hat, ?_⟩
    refine ⟨_, rfl, a, c + 3, 3, rfl, p3, by omega, by decide, by decide, fun r4 H4 r40 r41 p4 kb4 => ?_⟩
    have kb04 : KeepBut a H H4 := kb03.trans kb4
    refine ⟨rfl, _, rfl, ?_⟩
    refine ite2 (fun h => ?_) (fun h => ?_)
    · refine ⟨_, rfl, _, rfl, _, rfl, fun r hr' => ⟨r, 0, mv, rfl, upd_same, ⟨by decide, by decide, by omega, by omega⟩, by omega, fun g hg => ?_⟩⟩
      obtain ⟨x4, y4, z4, h4a, hz4, hz4'⟩ := id p4
      have nar : a ≠ r := ne_of_none h4a hr'
      have hgr : g ≠ r := fun z => by rw [z, upd_same] at hg; cases hg
      have hg0 : H4 g = none := by rw [upd_ne hgr] at hg; exact hg
      have nag : a ≠ g := ne_of_none h4a hg0
      refine ⟨a, g, c + 4, (upTo 0 (mv - 0).toNat).map V.int, rfl, ⟨x4, y4, z4, by rw [upd_ne nag, upd_ne nar]; exact h4a, hz4, by omega⟩, by rw [List.length_map, length_upTo]; omega, SqL.of upd_same, by rw [List.length_map, length_upTo]; omega, ?_⟩
      intro l ys H5 hl hperm h5l p5 kb5
      have e0 : (mv - 0).toNat = mv.toNat := by rw [Int.sub_zero]
      rw [e0] at hperm
      obtain ⟨ts, rfl, hts⟩ := perm_ints hperm
      obtain ⟨hT, hTl⟩ := isT_of_perm hts
      have hlg : l ≠ g := fun z => by rw [z, upd_same] at hl; cases hl
      have hlr : l ≠ r := fun z => by rw [z, upd_ne hgr.symm, upd_same] at hl; cases hl
      have hl4 : H4 l = none := by rw [upd_ne hlg, upd_ne hlr] at hl; exact hl
      have nal : l ≠ a := fun z => by rw [z, h4a] at hl4; cases hl4
      have hl0 : H l = none := by
        cases ee : H l with
        | none => rfl
        | some o => have := kb04 l o ee nal; rw [hl4] at this; cases this
      have s4 : Same H4 (upd (upd H4 r (.rng 0 mv)) g (.lst ((upTo 0 (mv - 0).toNat).map V.int))) := (Same.upd_new hr').upd_r hg0
      refine q l ts H5 hl0 hT (by omega) h5l (p5.mono (by rw [List.length_map, length_upTo]; omega)) fun b o hb hn => kb5 b o (s4 b o (kb04 b o hb hn)) hn
    · refine ⟨_, rfl, _, rfl, _, rfl, a, c + 4, mv, rfl, p4, mv0, by omega, by omega, ?_⟩
      intro g ls H5 hg hge hsum h5g p5 kb5
      have nag : g ≠ a := by
        obtain ⟨x4, y4, z4, h4a, hz4, hz4'⟩ := id p4
        exact fun z => by rw [z, h4a] at hg; cases hg
      refine ⟨a, g, c + 4 + 110, ls, rfl, p5, nag, h5g, hge, by omega, by omega, ?_⟩
      intro l ps H6 hl hperm h6l p6 kb6
      obtain ⟨hT, hTl⟩ := isT_of_perm hperm
      have kb05 := kb04.trans kb5
      have nal : l ≠ a := by
        obtain ⟨x5, y5, z5, h5a, _⟩ := id p5
        exact fun z => by rw [z, h5a] at hl; cases hl
      have hl0 : H l = none := by
        cases ee : H l with
        | none => rfl
        | some o => have := kb05 l o ee nal; rw [hl] at this; cases this
      exact q l ps H6 hl0 hT (by omega) h6l (p6.mono (by omega)) (kb05.trans kb6)
end
end My
namespace My
open PySem L2 Mth
section
variable {P : Program} {w : World} {K : PySem.W.Frag} {mg : Str → Option Value} {base : Heap}
def spRings : Sp := fun vs H Q _ => ∃ (a : Addr) (p : List Int), vs = [.ref a] ∧ TurnAt H a p ∧
  ∀ (l : Addr) (as : List Addr) (rs : List (List Int)) (H' : Hp), H l = none → Same H H' → H' l = some (.lst (as.map V.ref)) → RowsH H' as rs → RingsUp p p.length rs → (∀ b ∈ as, H b = none) → as.Nodup → l ∉ as → Q (.ref l) H'
theorem rows_snoc {H : Hp} {as : List Addr} {rs : List (List Int)} {e : Addr} {r : List Int} (h : RowsH H as rs) (he : H e = some (.lst (r.map V.int))) : RowsH H (as ++ [e]) (rs ++ [r]) := by
  refine ⟨by rw [List.length_append, List.length_append, h.1]; rfl, fun j b q h1 h2 => ?_⟩
  by_cases hj : j < as.length
  · rw [List.getElem?_append_left hj] at h1
    rw [List.getElem?_append_left (by rw [← h.1]; exact hj)] at h2
    exact h.2 j b q h1 h2
  · rw [List.getElem?_append_right (by omega)] at h1
    rw [List.getElem?_append_right (by rw [← h.1]; omega), ← h.1] at h2
    have hj0 : j - as.length = 0 := by
      have := (List.getElem?_eq_some_iff.mp h1).1
      simpa using this
    rw [hj0] at h1 h2
    cases h1; cases h2
    exact he
theorem rows_keep {H H' : Hp} {as : List Addr} {rs : List (List Int)} (h : RowsH H as rs) (k : ∀ b ∈ as, ∀ o, H b = some o → H' b = some o) : RowsH H' as rs :=
  ⟨h.1, fun j a r h1 h2 => k a (List.mem_of_getElem? h1) _ (h.2 j a r h1 h2)⟩
theorem rows_mem {H : Hp} {as : List Addr} {rs : List (List Int)} (h : RowsH H as rs) {b : Addr} (hb : b ∈ as) : ∃ r : List Int, H b = some (.lst (r.map V.int)) := by
  obtain ⟨j, hj⟩ := List.mem_iff_getElem?.mp hb
  have hjl := (List.getElem?_eq_some_iff.mp hj).1
  exact ⟨_, h.2 j b (rs[j]'(by rw [← h.1]; exact hjl)) hj (List.getElem?_eq_getElem _)⟩
theorem up_len {p : List Int} {i : Nat} {rs : List (List Int)} (tp : IsT p) (h : RingsUp p i rs) : rs.flatten.length ≤ p.length := by
  refine nodup_len_in h.nd fun x hx => ?_
  obtain ⟨r, hr, hxr⟩ := List.mem_flatten.mp hx
  obtain ⟨y, L, a, b, rfl, _⟩ := h.ring r hr
  exact ringL_in tp a x hxr
theorem up_count {p : List Int} {i : Nat} {rs : List (List Int)} (h : RingsUp p i rs) : rs.length ≤ rs.flatten.length := by
  have : ∀ l : List (List Int), (∀ r ∈ l, 1 ≤ r.length) → l.length ≤ l.flatten.length := by
    intro l
    induction l with
    | nil => intro _; exact Nat.le_refl _
    | cons a r ih =>
      intro h
      have h1 := h a List.mem_cons_self
      have h2 := ih fun x hx => h x (List.mem_cons_of_mem _ hx)
      rw [List.flatten_cons, List.length_append, List.length_cons]
      omega
  refine this rs fun r hr => ?_
  obtain ⟨y, L, a, b, rfl, _⟩ := h.ring r hr
  rw [ringL_len]
  exact b.pos
end
end My
namespace My
open PySem L2 Mth
section
variable {P : Program} {w : World} {K : PySem.W.Frag} {mg : Str → Option Value} {base : Heap}
def spRing : Sp := fun vs H Q _ => ∃ (a : Addr) (p : List Int) (x : Int), vs = [.ref a, .int x] ∧ TurnAt H a p ∧ In p x ∧
  ∀ (l : Addr) (L : Nat) (H' : Hp), H l = none → Same H H' → Per p x L → L ≤ 40 → H' l = some (.lst ((ringL p x L).map V.int)) → Q (.ref l) H'
theorem scRing : FnScope ["p", "first", "ring", "thing"] ["p", "first"] (defScope s_walk_ring) := ⟨rfl, rfl, rfl, by decide +kernel, rfl, by decide +kernel, by decide +kernel⟩
theorem ok_ring {f : Addr} {fd : FuncData} (F : Fun K "walk_ring" "walk_ring" s_walk_ring f fd) : FnOk P w K mg base CX0 1 f fd ["p", "first"] spRing := by
  refine F.ok scRing (fun vs H Q E h => ?_) (fun cdv A outer s H vs Q E hr h => ?_)
  · obtain ⟨a, p, x, rfl, _⟩ := h
    rfl
  · obtain ⟨a, p, x, rfl, ⟨ha, tp, lp⟩, hx, q⟩ := h
    refine ⟨_, pss_cons (ps_set (i := 2) scRing.nd rfl (Or.inl rfl) (pe_lst (pa_cons (pv 1) pa_nil)))
      (pss_cons (ps_set (i := 3) scRing.nd rfl (Or.inl rfl) (pe_ix ix_list (pv 0) (pv 1) (fun _ _ => rfl)))
      (pss_cons (ps_while PassesOwn.never (pt_cmpR op_ne (pv 3) (pv 1) (nomark _)) (pss_cons (ps_expr (pe_append (pv 2) (pa_cons (pv 3) pa_nil))) (pss_one (ps_set (i := 3) scRing.nd rfl (Or.inl rfl) (pe_ix ix_list (pv 0) (pv 3) (fun _ _ => rfl))))))
      (pss_one (ps_ret (pv 2))))), ?_⟩
    refine ⟨_, rfl, (by show 1 ≤ sizeLine; decide), fun l hl => ?_⟩
    have nal : a ≠ l := ne_of_none ha hl
    have hal : (upd H l (.lst [.int x])) a = some (.lst (p.map V.int)) := by rw [upd_ne nal]; exact ha
    refine ⟨_, rfl, _, rfl, a, _, _, _, rfl, rfl, SqL.of hal, atI_map hx.1 hx.2, ?_⟩
    refine while_by (fun σ H2 => ∃ m : Nat, σ = [some (.ref a), some (.int x), some (.ref l), some (.int (it p m x))] ∧ 1 ≤ m ∧ H2 l = some (.lst ((ringL p x m).map V.int)) ∧ Same H H2 ∧ ∀ i, 0 < i → i < m → it p i x ≠ x) (fun _ H2 => p.length + 1 - lenAt H2 l)
      ⟨1, rfl, Nat.le_refl _, upd_same, Same.upd_new hl, fun i i0 i1 => by omega⟩ ?_ ?_
    · rintro σ H2 ⟨m, rfl, m1, h2l, s2, hne⟩
      have ha2 := s2 a _ ha
      refine ⟨_, rfl, _, rfl, rfl, _, rfl, ?_⟩
      by_cases hb : it p m x = x
      · refine iteNS (congrArg V.int hb) ?_
        exact ⟨_, rfl, q l m H2 hl s2 ⟨by omega, hb, hne⟩ (by have := ring_bound tp hx hne; omega) h2l⟩
      · have hb' : ¬ V.int (it p m x) = V.int x := fun z => hb (V.int.inj z)
        rw [decide_eq_false hb']
        refine iteT ?_
        have hne' : ∀ i, 0 < i → i < m + 1 → it p i x ≠ x := fun i i0 i1 => by
          by_cases e : i = m
          · rw [e]; exact hb
          · exact hne i i0 (by omega)
        have hbd := ring_bound tp hx hne'
        refine ⟨_, rfl, .inl ⟨rfl, _, SqL.of h2l⟩, _, rfl, l, _, _, rfl, rfl, h2l, small1000 (by rw [List.length_map, ringL_len]; omega), ?_⟩
        have hi := it_in tp hx m
        refine ⟨_, rfl, _, rfl, a, _, _, _, rfl, rfl, SqL.of (by rw [upd_ne nal]; exact ha2), atI_map hi.1 hi.2, ?_⟩
        have h3l : (upd H2 l (.lst ((ringL p x m).map V.int ++ [.int (it p m x)]))) l = some (.lst ((ringL p x (m + 1)).map V.int)) := by
          rw [upd_same, ringL_succ, List.map_append]; rfl
        refine ⟨⟨m + 1, rfl, by omega, h3l, fun b o hb => by rw [upd_ne (ne_of_none hb hl)]; exact s2 b o hb, hne'⟩, ?_⟩
        rw [lenAt_of h3l, lenAt_of h2l, List.length_map, List.length_map, ringL_len, ringL_len]
        omega
    · rintro σ H2 Q Q' hq ⟨v, hv, u, hu, e1, k1, e2, e3⟩
      exact ⟨v, hv, u, hu, e1, k1, e2, hq _ _ e3⟩
theorem scRings : FnScope ["p", "rings", "seen", "first", "ring", "thing"] ["p"] (defScope s_walk_rings) := ⟨rfl, rfl, rfl, by decide +kernel, rfl, by decide +kernel, by decide +kernel⟩
theorem ok_rings {f : Addr} {fd : FuncData} (F : Fun K "walk_rings" "walk_rings" s_walk_rings f fd) (B : Bl mg) (cR : Cal P w K mg base "walk_ring" 1 ["p", "first"] spRing) : FnOk P w K mg base CX0 2 f fd ["p"] spRings := by
  refine F.ok scRings (fun vs H Q E h => ?_) (fun cdv A outer s H vs Q E hr h => ?_)
  · obtain ⟨a, p, rfl, _⟩ := h
    rfl
  · obtain ⟨a, p, rfl, ⟨ha, tp, lp⟩, q⟩ := h
    have hu := hu_of hr
    refine ⟨_, pss_cons (ps_set (i := 1) scRings.nd rfl (Or.inl rfl) (pe_lst pa_nil)) (pss_cons (ps_set (i := 2) scRings.nd rfl (Or.inl rfl) pe_dnewK)
      (pss_cons (ps_for PassesOwn.never rfl (pi_range1 (by rfl) B.range (pa_cons (pe_lenL B.len (pa_cons (pv 0) pa_nil)) pa_nil)) (pg_name (i := 3) scRings.nd rfl (Or.inl rfl))
        (pss_one (ps_if (pt_cmp (pc_dnotin hu (pv 3) (pv 2))) (pss_cons (ps_set (i := 4) scRings.nd rfl (Or.inl rfl) (pe_cal cR hr (pa_cons (pv 0) (pa_cons (pv 3) pa_nil)))) (pss_cons (ps_expr (pe_append (pv 1) (pa_cons (pv 4) pa_nil)))
          (pss_one (ps_for PassesOwn.never rfl (pi_list (pv 4)) (pg_name (i := 5) scRings.nd rfl (Or.inl rfl)) (pss_one (ps_dput hu (pv 2) (pv 5) pe_bl rfl)))))) pss_nil)))
      (pss_one (ps_ret (pv 1))))), ?_⟩
    refine ⟨Nat.zero_le _, fun l hl => ?_⟩
    intro d hd
    have hdl : d ≠ l := fun z => by rw [z, upd_same] at hd; cases hd
    have hd0 : H d = none := by rw [upd_ne hdl] at hd; exact hd
    have s0 : Same H (upd (upd H l (.lst [])) d (.dK [])) := (Same.upd_new hl).upd_r hd0
    have h0l : (upd (upd H l (.lst [])) d (.dK [])) l = some (.lst []) := by rw [upd_ne hdl.symm, upd_same]
    refine ⟨_, rfl, a, _, rfl, .inl (SqL.of (s0 a _ ha)), (p.length : Int), ?_, by omega, by omega, ?_⟩
    · rw [List.length_map]
    rw [show ((p.length : Int)).toNat = p.length by omega]
    refine for_range (lo := 0) (n := p.length) (fun i σ H2 => ∃ (as : List Addr) (rs : List (List Int)) (v3 v4 v5 : Option V), σ = [some (.ref a), some (.ref l), some (.ref d), v3, v4, v5] ∧ H2 l = some (.lst (as.map V.ref)) ∧ H2 d = some (.dK (seenK rs.flatten)) ∧ RowsH H2 as rs ∧ RingsUp p i rs ∧ Same H H2 ∧ (∀ b ∈ as, H b = none) ∧ as.Nodup ∧ l ∉ as)
      ⟨[], [], none, none, none, rfl, h0l, upd_same, ⟨rfl, fun j b r h => by simp at h⟩, rings_none p, s0, fun b hb => by simp at hb, List.nodup_nil, by simp⟩ ?_ ?_
    · rintro i σ H2 hi ⟨as, rs, v3, v4, v5, rfl, h2l, h2d, rows, up, s2, fa, nda, nla⟩
      have hx : In p (i : Int) := ⟨by omega, by omega⟩
      have e0 : (0 : Int) + (i : Int) = (i : Int) := by omega
      rw [e0]
      refine ⟨_, rfl, _, rfl, d, _, rfl, DGet.k (k := Sum.inl (i : Int)) h2d, _, rfl, ?_⟩
      by_cases hm : (i : Int) ∈ rs.flatten
      · rw [seenK_in hm]
        refine iteF ?_
        exact ⟨as, rs, _, _, _, rfl, h2l, h2d, rows, rings_skip up hm, s2, fa, nda, nla⟩
      · rw [seenK_no hm]
        refine iteT ?_
        refine ⟨_, rfl, _, rfl, a, p, _, rfl, ⟨s2 a _ ha, tp, lp⟩, hx, fun e L H3 he s23 pr hL h3e => ?_⟩
        have h3l := s23 l _ h2l
        have h3d := s23 d _ h2d
        have nle : l ≠ e := ne_of_none h2l he
        have nde : d ≠ e := ne_of_none h2d he
        have fl := up_len tp up
        have cl := up_count up
        have lenas := rows.1
        refine ⟨_, rfl, .inl ⟨rfl, _, SqL.of h3l⟩, _, rfl, l, _, _, rfl, rfl, h3l, small1000 (by rw [List.length_map, lenas]; omega), ?_⟩
        have es : as.map V.ref ++ [V.ref e] = (as ++ [e]).map V.ref := by rw [List.map_append]; rfl
        rw [es]
        have h4l : (upd H3 l (.lst ((as ++ [e]).map V.ref))) l = some (.lst ((as ++ [e]).map V.ref)) := upd_same
        have h4d : (upd H3 l (.lst ((as ++ [e]).map V.ref))) d = some (.dK (seenK rs.flatten)) := by rw [upd_ne hdl]; exact h3d
        have h4e : (upd H3 l (.lst ((as ++ [e]).map V.ref))) e = some (.lst ((ringL p i L).map V.int)) := by rw [upd_ne nle.symm]; exact h3e
        have k4 : ∀ b o, H2 b = some o → b ≠ l → (upd H3 l (.lst ((as ++ [e]).map V.ref))) b = some o := fun b o hb hn => by rw [upd_ne hn]; exact s23 b o hb
        generalize (upd H3 l (.lst ((as ++ [e]).map V.ref))) = H4 at h4l h4d h4e k4 ⊢
        have fr := rings_fresh up pr hm
        have ndr := ringL_nodup tp hx fun j j0 j1 => pr.least j j0 j1
        refine ⟨_, rfl, e, rfl, ⟨_, SqL.of h4e⟩, for_list (K := K) (a := e) (xs := (ringL p i L).map V.int) (fun j σ H5 => ∃ v5' : Option V, σ = [some (.ref a), some (.ref l), some (.ref d), some (.int (i : Int)), some (.ref e), v5'] ∧ H5 d = some (.dK (seenK (rs.flatten ++ (ringL p i L).take j))) ∧ KeepBut d H4 H5)
          ⟨v5, rfl, by rw [List.take_zero, List.append_nil]; exact h4d, KeepBut.refl d H4⟩ (fun j σ H5 _ ⟨_, _, _, k⟩ => SqL.of (k e _ h4e nde.symm)) ?_ ?_⟩
        · rintro j y σ H5 hj ⟨v5', rfl, h5d, kb⟩
          obtain ⟨z, hz, rfl⟩ := getElem_int hj
          have hjl : j < (ringL p i L).length := (List.getElem?_eq_some_iff.mp hz).1
          rw [ringL_len] at hjl
          have hzn : z ∉ rs.flatten ++ (ringL p i L).take j := by
            intro hm'
            rcases List.mem_append.mp hm' with g | g
            · exact fr z (List.mem_of_getElem? hz) g
            · obtain ⟨jj, hjj⟩ := List.mem_iff_getElem?.mp g
              have hjk : jj < j := by
                have := (List.getElem?_eq_some_iff.mp hjj).1
                rw [List.length_take] at this
                omega
              rw [List.getElem?_take_of_lt hjk] at hjj
              have e1 := (List.getElem?_eq_some_iff.mp hjj).2
              have e2 := (List.getElem?_eq_some_iff.mp hz).2
              exact List.pairwise_iff_getElem.mp (List.nodup_iff_pairwise_ne.mp ndr) jj j (by rw [ringL_len]; omega) (by rw [ringL_len]; omega) hjk (by rw [e1, e2])
          refine ⟨_, rfl, _, rfl, d, _, rfl, DPut.k (k := Sum.inl z) h5d (small1000 (by unfold seenK; rw [List.length_map, List.length_append, List.length_take, ringL_len]; omega)), ?_⟩
          refine ⟨_, rfl, ?_, kb.upd_a⟩
          rw [seenK_put hzn, upd_same, take_succ_of hz, List.append_assoc]
        · rintro σ H5 ⟨v5', rfl, h5d, kb⟩
          rw [List.length_map, List.take_length] at h5d
          have nad : ∀ b ∈ as, b ≠ d ∧ b ≠ l := fun b hb => by
            obtain ⟨r, hr'⟩ := rows_mem rows hb
            exact ⟨ne_of hr' h2d (by intro z; cases z), fun z => nla (z ▸ hb)⟩
          refine ⟨as ++ [e], rs ++ [ringL p i L], _, _, _, rfl, kb l _ h4l hdl.symm, ?_, ?_, rings_step tp up hx pr hm, ?_, ?_, ?_, ?_⟩
          · rw [h5d, List.flatten_append, List.flatten_singleton]
          · exact rows_snoc (rows_keep rows fun b hb o ho => kb b o (k4 b o ho (nad b hb).2) (nad b hb).1) (kb e _ h4e nde.symm)
          · exact fun b o hb => kb b o (k4 b o (s2 b o hb) (ne_of_none hb hl)) (ne_of_none hb hd0)
          · intro b hb
            rcases List.mem_append.mp hb with g | g
            · exact fa b g
            · have : b = e := by simpa using g
              rw [this]; exact s2.free he
          · refine nd_snoc nda fun g => ?_
            obtain ⟨r, hr'⟩ := rows_mem rows g
            rw [he] at hr'; cases hr'
          · intro g
            rcases List.mem_append.mp g with g | g
            · exact nla g
            · exact nle (by simpa using g)
    · rintro σ H2 ⟨as, rs, v3, v4, v5, rfl, h2l, h2d, rows, up, s2, fa, nda, nla⟩
      exact ⟨_, rfl, q l as rs H2 hl s2 h2l rows up fa nda nla⟩
end
end My
namespace My
open PySem L2 Mth
section
variable {P : Program} {w : World} {K : PySem.W.Frag} {mg : Str → Option Value} {base : Heap}
def spSend : Sp := fun vs H Q _ => ∃ (t r : Addr) (ts rs : List Int) (k : Int), vs = [.ref t, .ref r, .int k] ∧ H t = some (.lst (ts.map V.int)) ∧ H r = some (.lst (rs.map V.int)) ∧ t ≠ r ∧ rs.Nodup ∧ (∀ x ∈ rs, 0 ≤ x ∧ x < ts.length) ∧
  ∀ (ts' : List Int) (H' : Hp), ts'.length = ts.length → (∀ j, j < rs.length → at0 ts' (rs.getD j 0) = some (rs.getD (((j : Int) + k) % (rs.length : Int)).toNat 0)) → (∀ u, 0 ≤ u → u ∉ rs → at0 ts' u = at0 ts u) → H' t = some (.lst (ts'.map V.int)) → KeepBut t H H' → Q .non H'
theorem scSend : FnScope ["target", "ring", "steps", "place", "thing"] ["target", "ring", "steps"] (defScope s_send_along) := ⟨rfl, rfl, rfl, by decide +kernel, rfl, by decide +kernel, by decide +kernel⟩
theorem ok_send {f : Addr} {fd : FuncData} (F : Fun K "send_along" "send_along" s_send_along f fd) (B : Bl mg) : FnOk P w K mg base CX0 1 f fd ["target", "ring", "steps"] spSend := by
  refine F.ok scSend (fun vs H Q E h => ?_) (fun cdv A outer s H vs Q E hr h => ?_)
  · obtain ⟨t, r, ts, rs, k, rfl, _⟩ := h
    rfl
  · obtain ⟨t, r, ts, rs, k, rfl, ht, hrr, ntr, nd, bd, q⟩ := h
    refine ⟨_, pss_one (ps_for PassesOwn.never rfl (pi_enum B.enum (pa_cons (pv 1) pa_nil)) (pg_tup rfl (pgs_cons (pg_name (i := 3) scSend.nd rfl (Or.inl rfl)) (pgs_cons (pg_name (i := 4) scSend.nd rfl (Or.inl rfl)) pgs_nil)))
      (pss_one (ps_asg (pe_ix ix_list (pv 1) (pe_op op_mod (pe_op op_add (pv 3) (pv 2)) (pe_lenL B.len (pa_cons (pv 1) pa_nil))) (fun _ _ => rfl)) (pg_sub (pv 0) (pv 4) set_list)))), ?_⟩
    refine ⟨_, rfl, r, rfl, ⟨_, SqL.of hrr⟩, for_enum (K := K) (a := r) (xs := rs.map V.int) (fun i σ H2 => ∃ (ts' : List Int) (v3 v4 : Option V), σ = [some (.ref t), some (.ref r), some (.int k), v3, v4] ∧ H2 t = some (.lst (ts'.map V.int)) ∧ ts'.length = ts.length ∧ (∀ j, j < i → at0 ts' (rs.getD j 0) = some (rs.getD (((j : Int) + k) % (rs.length : Int)).toNat 0)) ∧ (∀ u, 0 ≤ u → u ∉ rs → at0 ts' u = at0 ts u) ∧ KeepBut t H H2)
      ⟨ts, none, none, rfl, ht, rfl, fun j hj => by omega, fun u _ _ => rfl, KeepBut.refl t H⟩ (fun i σ H2 _ ⟨_, _, _, _, _, _, _, _, k⟩ => SqL.of (k r _ hrr ntr.symm)) ?_ ?_⟩
    · rintro i y σ H2 tt hi ⟨ts', v3, v4, rfl, h2t, hl, hj, hu, kb⟩ htt
      obtain ⟨z, hz, rfl⟩ := getElem_int hi
      have hil : i < rs.length := (List.getElem?_eq_some_iff.mp hz).1
      have h2r := kb r _ hrr ntr.symm
      have nt : t ≠ tt := ne_of_none h2t htt
      have nr : r ≠ tt := ne_of_none h2r htt
      have h3r : (upd H2 tt (.tup [.int (i : Int), .int z])) r = some (.lst (rs.map V.int)) := by rw [upd_ne nr]; exact h2r
      have h3t : (upd H2 tt (.tup [.int (i : Int), .int z])) t = some (.lst (ts'.map V.int)) := by rw [upd_ne nt]; exact h2t
      have L0 : (0 : Int) < (rs.length : Int) := by omega
      have m0 := Int.emod_nonneg ((i : Int) + k) (show (rs.length : Int) ≠ 0 by omega)
      have m1 := Int.emod_lt_of_pos ((i : Int) + k) L0
      refine ⟨tt, _, rfl, SqT.of upd_same, rfl, _, _, rfl, _, _, rfl, rfl, ?_⟩
      refine ⟨_, rfl, _, rfl, _, rfl, _, _, rfl, rfl, _, rfl, r, _, rfl, .inl (SqL.of h3r), ?_⟩
      rw [List.length_map]
      refine ⟨_, _, rfl, rfl, L0, r, _, _, _, rfl, rfl, SqL.of h3r, atI_map m0 m1, ?_⟩
      obtain ⟨z0, z1⟩ := bd z (List.mem_of_getElem? hz)
      refine ⟨_, rfl, _, rfl, t, _, _, z.toNat, rfl, rfl, h3t, ?_, ?_⟩
      · unfold ixN
        rw [List.length_map, if_pos z0, if_pos (by omega)]
      have es : (ts'.map V.int).set z.toNat (.int (rs.getD (((i : Int) + k) % (rs.length : Int)).toNat 0)) = (ts'.set z.toNat (rs.getD (((i : Int) + k) % (rs.length : Int)).toNat 0)).map V.int := by rw [List.map_set]
      rw [es]
      have hzi : rs.getD i 0 = z := by rw [getD_eq hil]; exact (List.getElem?_eq_some_iff.mp hz).2
      refine ⟨_, _, _, rfl, upd_same, by rw [List.length_set]; exact hl, fun j hji => ?_, fun u u0 un => ?_, fun b o hb hn => ?_⟩
      · by_cases e : j = i
        · subst e
          rw [hzi, at0_same (by omega)]
        · have hjl : j < rs.length := by omega
          have : rs.getD j 0 ≠ z := by rw [← hzi]; exact nodup_getD nd hjl hil e
          rw [at0_ne (bd _ (by rw [getD_eq hjl]; exact List.getElem_mem hjl)).1 z0 this]
          exact hj j (by omega)
      · rw [at0_ne u0 z0 (fun e => un (e ▸ List.mem_of_getElem? hz))]
        exact hu u u0 un
      · have := kb b o hb hn
        rw [upd_ne hn, upd_ne (ne_of_none this htt)]
        exact this
    · rintro σ H2 ⟨ts', v3, v4, rfl, h2t, hl, hj, hu, kb⟩
      rw [List.length_map] at hj
      exact q ts' H2 hl hj hu h2t kb
end
end My
namespace My
open PySem L2 Mth
section
variable {P : Program} {w : World} {K : PySem.W.Frag} {mg : Str → Option Value} {base : Heap}
def spPower : Sp := fun vs H Q _ => ∃ (a : Addr) (p : List Int) (k : Int), vs = [.ref a, .int k] ∧ TurnAt H a p ∧ ∀ (l : Addr) (t : List Int) (H' : Hp), H l = none → Same H H' → PowIs p k t → H' l = some (.lst (t.map V.int)) → Q (.ref l) H'
theorem scPower : FnScope ["p", "k", "told", "ring"] ["p", "k"] (defScope s_power_of) := ⟨rfl, rfl, rfl, by decide +kernel, rfl, by decide +kernel, by decide +kernel⟩
theorem ok_power {f : Addr} {fd : FuncData} (F : Fun K "power_of" "power_of" s_power_of f fd) (B : Bl mg) (cM : Cal P w K mg base "must_be_turn" 3 ["thing"] spMust) (cR : Cal P w K mg base "walk_rings" 2 ["p"] spRings) (cS : Cal P w K mg base "send_along" 1 ["target", "ring", "steps"] spSend) : FnOk P w K mg base CX0 4 f fd ["p", "k"] spPower := by
  refine F.ok scPower (fun vs H Q E h => ?_) (fun cdv A outer s H vs Q E hr h => ?_)
  · obtain ⟨a, p, k, rfl, _⟩ := h
    rfl
  · obtain ⟨a, p, k, rfl, ⟨ha, tp, lp⟩, q⟩ := h
    refine ⟨_, pss_cons (ps_expr (pe_cal cM hr (pa_cons (pv 0) pa_nil))) (pss_cons (ps_set (i := 2) scPower.nd rfl (Or.inl rfl) (pe_listOf B.list (pa_cons (pv 0) pa_nil)))
      (pss_cons (ps_for PassesOwn.never rfl (pi_list (pe_cal cR (hr.mono (by decide)) (pa_cons (pv 0) pa_nil))) (pg_name (i := 3) scPower.nd rfl (Or.inl rfl)) (pss_one (ps_expr (pe_cal cS (hr.mono (by decide)) (pa_cons (pv 2) (pa_cons (pv 3) (pa_cons (pv 1) pa_nil)))))))
      (pss_one (ps_ret (pv 2))))), ?_⟩
    refine ⟨_, rfl, a, p, rfl, ⟨ha, tp, lp⟩, fun H1 s1 => ?_⟩
    refine ⟨_, rfl, a, _, rfl, .inl (SqL.of (s1 a _ ha)), fun l hl => ?_⟩
    have hl0 : H l = none := s1.free hl
    have s2 : Same H (upd H1 l (.lst (p.map V.int))) := s1.upd_r hl0
    have h2l : (upd H1 l (.lst (p.map V.int))) l = some (.lst (p.map V.int)) := upd_same
    generalize (upd H1 l (.lst (p.map V.int))) = H2 at s2 h2l ⊢
    refine ⟨_, rfl, a, p, rfl, ⟨s2 a _ ha, tp, lp⟩, fun g as rs H3 hg s23 h3g rows up fa nda nga => ?_⟩
    have h3l := s23 l _ h2l
    have ngl : g ≠ l := fun z => by rw [z, h2l] at hg; cases hg
    refine ⟨g, rfl, ⟨_, SqL.of h3g⟩, for_list (K := K) (a := g) (xs := as.map V.ref) (fun i σ H4 => ∃ (ts : List Int) (v3 : Option V), σ = [some (.ref a), some (.int k), some (.ref l), v3] ∧ H4 l = some (.lst (ts.map V.int)) ∧ ts.length = p.length ∧ (∀ x ∈ (rs.take i).flatten, ∃ L, Per p x L ∧ at0 ts x = some (it p (k % (L : Int)).toNat x)) ∧ KeepBut l H3 H4)
      ⟨p, none, rfl, h3l, rfl, fun x hx => by simp at hx, KeepBut.refl l H3⟩ (fun i σ H4 _ ⟨_, _, _, _, _, _, kb⟩ => SqL.of (kb g _ h3g ngl)) ?_ ?_⟩
    · rintro i y σ H4 hi ⟨ts, v3, rfl, h4l, hl4, hx4, kb⟩
      rw [List.getElem?_map] at hi
      cases hai : as[i]? with
      | none => rw [hai] at hi; cases hi
      | some e =>
        rw [hai] at hi
        cases hi
        have hil : i < as.length := (List.getElem?_eq_some_iff.mp hai).1
        have hri : rs[i]? = some (rs[i]'(by rw [← rows.1]; exact hil)) := List.getElem?_eq_getElem _
        generalize hR : rs[i]'(by rw [← rows.1]; exact hil) = R at hri
        have h3e := rows.2 i e R hai hri
        have hRm : R ∈ rs := List.mem_of_getElem? hri
        obtain ⟨x, L, hx, pr, eR, _⟩ := up.ring R hRm
        have nle : l ≠ e := fun z => by have := fa e (List.mem_of_getElem? hai); rw [← z, h2l] at this; cases this
        have h4e := kb e _ h3e nle.symm
        refine ⟨_, rfl, _, rfl, _, rfl, l, e, ts, R, k, rfl, h4l, h4e, nle, ?_, ?_, ?_⟩
        · rw [eR]; exact ringL_nodup tp hx fun j j0 j1 => pr.least j j0 j1
        · intro y hy
          rw [eR] at hy
          have := ringL_in tp hx y hy
          rw [hl4]
          exact this
        intro ts' H5 hl5 hj hu h5l kb5
        refine ⟨ts', _, rfl, h5l, by omega, fun y hy => ?_, kb.trans kb5⟩
        rw [take_succ_of hri, List.flatten_append, List.flatten_singleton] at hy
        have hsplit : rs.flatten = (rs.take i).flatten ++ (R ++ (rs.drop (i + 1)).flatten) := by
          conv => lhs; rw [← List.take_append_drop i rs, List.flatten_append]
          rw [List.drop_eq_getElem_cons (by rw [← rows.1]; exact hil), hR, List.flatten_cons]
        by_cases hyR : y ∈ R
        · rw [eR] at hyR
          obtain ⟨j, hjL, rfl⟩ := mem_ringL.mp hyR
          refine ⟨L, pr.shift tp hx j, ?_⟩
          have hjr : j < R.length := by rw [eR, ringL_len]; exact hjL
          have := hj j hjr
          have rl : (R.length : Int) = (L : Int) := by rw [eR, ringL_len]
          rw [rl] at this
          have b0 := Int.emod_nonneg ((j : Int) + k) (show (L : Int) ≠ 0 by have := pr.pos; omega)
          have b1 := Int.emod_lt_of_pos ((j : Int) + k) (show (0 : Int) < (L : Int) by have := pr.pos; omega)
          rw [eR, ringL_getD hjL, ringL_getD (by omega), step_along pr] at this
          exact this
        · rcases List.mem_append.mp hy with g' | g'
          · obtain ⟨M, pm, em⟩ := hx4 y g'
            refine ⟨M, pm, ?_⟩
            have y0 : 0 ≤ y := by
              obtain ⟨r, hr', hyr⟩ := List.mem_flatten.mp g'
              obtain ⟨x', L', hx', _, er, _⟩ := up.ring r (List.mem_of_mem_take hr')
              rw [er] at hyr
              exact (ringL_in tp hx' y hyr).1
            rw [hu y y0 hyR]
            exact em
          · exact absurd g' hyR
    · rintro σ H4 ⟨ts, v3, rfl, h4l, hl4, hx4, kb⟩
      rw [List.length_map, rows.1, List.take_length] at hx4
      refine ⟨_, rfl, q l ts H4 hl0 (fun b o hb => kb b o (s23 b o (s2 b o hb)) (ne_of_none hb hl0)) ⟨hl4, fun x hx => hx4 x (up.all x hx.1 hx.2)⟩ h4l⟩
end
end My
namespace My
open PySem L2 Mth
section
variable {P : Program} {w : World} {K : PySem.W.Frag} {mg : Str → Option Value} {base : Heap}
theorem scRoundsOf : FnScope ["p"] ["p"] (defScope s_rounds_of) := ⟨rfl, rfl, rfl, by decide +kernel, rfl, by decide +kernel, by decide +kernel⟩
theorem ok_roundsOf {f : Addr} {fd : FuncData} (F : Fun K "rounds_of" "rounds_of" s_rounds_of f fd) (cM : Cal P w K mg base "must_be_turn" 3 ["thing"] spMust) (cR : Cal P w K mg base "walk_rings" 2 ["p"] spRings) : FnOk P w K mg base CX0 4 f fd ["p"] spRings := by
  refine F.ok scRoundsOf (fun vs H Q E h => ?_) (fun cdv A outer s H vs Q E hr h => ?_)
  · obtain ⟨a, p, rfl, _⟩ := h
    rfl
  · obtain ⟨a, p, rfl, ⟨ha, tp, lp⟩, q⟩ := h
    refine ⟨_, pss_cons (ps_expr (pe_cal cM hr (pa_cons (pv 0) pa_nil))) (pss_one (ps_ret (pe_cal cR (hr.mono (by decide)) (pa_cons (pv 0) pa_nil)))), ?_⟩
    refine ⟨_, rfl, a, p, rfl, ⟨ha, tp, lp⟩, fun H1 s1 => ?_⟩
    exact ⟨_, rfl, a, p, rfl, ⟨s1 a _ ha, tp, lp⟩, fun l as rs H' hl s' h1 h2 h3 h4 h5 h6 => q l as rs H' (s1.free hl) (s1.trans s') h1 h2 h3 (fun b hb => s1.free (h4 b hb)) h5 h6⟩
end
end My
namespace My
open PySem L2 Mth
section
variable {P : Program} {w : World} {K : PySem.W.Frag} {mg : Str → Option Value} {base : Heap}
def spGcd : Sp := fun vs H Q _ => ∃ (x y : Nat), vs = [.int (x : Int), .int (y : Int)] ∧ Q (.int (Nat.gcd x y : Nat)) H
theorem scGcd : FnScope ["a", "b", "rest"] ["a", "b"] (defScope s_greatest_part) := ⟨rfl, rfl, rfl, by decide +kernel, rfl, by decide +kernel, by decide +kernel⟩
def secondOf (σ : St) : Nat := match σ[1]? with
  | some (some (V.int i)) => i.toNat
  | _ => 0
theorem ok_gcd {f : Addr} {fd : FuncData} (F : Fun K "greatest_part" "greatest_part" s_greatest_part f fd) : FnOk P w K mg base CX0 1 f fd ["a", "b"] spGcd := by
  refine F.ok scGcd (fun vs H Q E h => ?_) (fun cdv A outer s H vs Q E hr h => ?_)
  · obtain ⟨x, y, rfl, _⟩ := h
    rfl
  · obtain ⟨x, y, rfl, q⟩ := h
    refine ⟨_, pss_cons (ps_while PassesOwn.never (pt_cmpR op_ne (pv 1) pe_int (nomark _))
        (pss_cons (ps_set (i := 2) scGcd.nd rfl (Or.inl rfl) (pe_op op_mod (pv 0) (pv 1))) (pss_cons (ps_set (i := 0) scGcd.nd rfl (Or.inl rfl) (pv 1)) (pss_one (ps_set (i := 1) scGcd.nd rfl (Or.inl rfl) (pv 2))))))
      (pss_one (ps_ret (pv 0))), ?_⟩
    refine while_by (fun σ H2 => ∃ (a b : Nat) (v : Option V), σ = [some (.int (a : Int)), some (.int (b : Int)), v] ∧ Nat.gcd a b = Nat.gcd x y ∧ H2 = H) (fun σ _ => secondOf σ) ⟨x, y, none, rfl, rfl, rfl⟩ ?_ ?_
    · rintro σ H2 ⟨a, b, v, rfl, hg, rfl⟩
      refine ⟨_, rfl, rfl, _, rfl, ?_⟩
      by_cases hb : b = 0
      · subst hb
        refine iteNS (by rfl) ?_
        refine ⟨_, rfl, ?_⟩
        rw [Nat.gcd_zero_right] at hg
        rw [hg]
        exact q
      · have hb' : ¬ V.int (b : Int) = V.int 0 := fun z => hb (by have := V.int.inj z; omega)
        rw [decide_eq_false hb']
        refine iteT ?_
        refine ⟨_, rfl, _, rfl, _, _, rfl, rfl, (by show (0 : Int) < (b : Int); omega), _, rfl, _, rfl, ⟨b, a % b, some (.int ((a : Int) % (b : Int))), ?_, ?_, rfl⟩, ?_⟩
        · rw [Int.natCast_emod]; rfl
        · rw [← hg, Nat.gcd_comm a b, Nat.gcd_rec b a, Nat.gcd_comm]
        · show ((a : Int) % (b : Int)).toNat < ((b : Int)).toNat
          have := Int.emod_lt_of_pos (a : Int) (show (0 : Int) < (b : Int) by omega)
          have := Int.emod_nonneg (a : Int) (show (b : Int) ≠ 0 by omega)
          omega
    · rintro σ H2 Q Q' hq ⟨v, hv, e1, k1, e2, e3⟩
      exact ⟨v, hv, e1, k1, e2, hq _ _ e3⟩
end
end My
namespace My
open PySem L2 Mth
section
variable {P : Program} {w : World} {K : PySem.W.Frag} {mg : Str → Option Value} {base : Heap}
noncomputable def kindL (p : List Int) : List Int := (ringsF p p.length).map fun r => (r.length : Int)
def spKind : Sp := fun vs H Q _ => ∃ (a : Addr) (p : List Int), vs = [.ref a] ∧ TurnAt H a p ∧ ∀ (l : Addr) (ms : List Int) (H' : Hp), H l = none → Same H H' → ms.Perm (kindL p) → ms.Pairwise (· ≥ ·) → (∀ x ∈ ms, 1 ≤ x ∧ x ≤ 40) → ms.length ≤ 40 → H' l = some (.lst (ms.map V.int)) → Q (.ref l) H'
theorem scKind : FnScope ["p"] ["p"] (defScope s_kind_of) := ⟨rfl, rfl, rfl, by decide +kernel, rfl, by decide +kernel, by decide +kernel⟩
theorem ndRing : (["ring"] : List Str).Nodup := by decide +kernel
theorem kind_bd {p : List Int} {rs : List (List Int)} (tp : IsT p) (lp : p.length ≤ 40) (up : RingsUp p p.length rs) : (∀ x ∈ rs.map (fun r => (r.length : Int)), 1 ≤ x ∧ x ≤ 40) ∧ rs.length ≤ 40 := by
  refine ⟨fun x hx => ?_, by have := up_count up; have := up_len tp up; omega⟩
  obtain ⟨r, hr, rfl⟩ := List.mem_map.mp hx
  obtain ⟨y, L, hy, pr, er, _⟩ := up.ring r hr
  have := ring_bound tp hy (m := L) fun i i0 i1 => pr.least i i0 i1
  have := pr.pos
  rw [er, ringL_len]
  omega
theorem ok_kind {f : Addr} {fd : FuncData} (F : Fun K "kind_of" "kind_of" s_kind_of f fd) (B : Bl mg) (bs : mg "sorted" = none) (cR : Cal P w K mg base "rounds_of" 4 ["p"] spRings) : FnOk P w K mg base CX0 5 f fd ["p"] spKind := by
  refine F.ok scKind (fun vs H Q E h => ?_) (fun cdv A outer s H vs Q E hr h => ?_)
  · obtain ⟨a, p, rfl, _⟩ := h
    rfl
  · obtain ⟨a, p, rfl, ⟨ha, tp, lp⟩, q⟩ := h
    refine ⟨_, pss_one (ps_ret (pe_sortedRev bs (pa_cons (pe_comp (N := ["ring"]) (nl := 1) (fr := []) rfl .of (pi_list (pe_cal cR hr (pa_cons (pv 0) pa_nil))) (fun _ _ _ _ _ => pg_name (i := 0) ndRing rfl (Or.inl rfl)) (fun _ _ _ _ _ => pifs_nil) (fun _ _ _ _ _ => pe_lenLK K B.len (pa_cons (pv 0) pa_nil))) pa_nil))), ?_⟩
    refine ⟨_, rfl, a, p, rfl, ⟨ha, tp, lp⟩, fun l as rs H1 hl s1 h1l rows up fa nda nla => ?_⟩
    obtain ⟨bd, lrs⟩ := kind_bd tp lp up
    refine ⟨l, rfl, ⟨_, SqL.of h1l⟩, comp_list (K := K) (a := l) (xs := as.map V.ref) (fun i ys σ H2 => ∃ v : Option V, σ = [v] ∧ H2 = H1 ∧ ys = ((rs.take i).map fun r => (r.length : Int)).map V.int) ⟨none, rfl, rfl, rfl⟩ (fun i ys σ H2 _ ⟨_, _, e, _⟩ => by rw [e]; exact SqL.of h1l) ?_ ?_⟩
    · rintro i y ys σ H2 hi ⟨v, rfl, rfl, rfl⟩
      rw [List.getElem?_map] at hi
      cases hA : as[i]? with
      | none => rw [hA] at hi; cases hi
      | some e =>
        rw [hA] at hi
        cases hi
        have hil : i < as.length := (List.getElem?_eq_some_iff.mp hA).1
        have hri : rs[i]? = some (rs[i]'(by rw [← rows.1]; exact hil)) := List.getElem?_eq_getElem _
        generalize (rs[i]'(by rw [← rows.1]; exact hil)) = r at hri
        have he := rows.2 i e r hA hri
        refine ⟨_, rfl, e, _, rfl, .inl (SqL.of he), small1000 (by rw [List.length_map, List.length_map, List.length_take]; omega), _, rfl, rfl, ?_⟩
        rw [take_succ_of hri, List.map_append, List.map_append, List.length_map]
        rfl
    · rintro ys σ H2 ⟨v, rfl, rfl, rfl⟩ D hD
      rw [List.length_map, rows.1, List.take_length]
      have s2 : Same H2 (upd H2 D (.lst ((rs.map fun r => (r.length : Int)).map V.int))) := Same.upd_new hD
      refine ⟨D, _, rfl, SqL.of upd_same, by rw [List.length_map]; omega, fun ms l2 pm srt hl2 => ?_⟩
      have hlD : l2 ≠ D := fun z => by rw [z, upd_same] at hl2; cases hl2
      have hl22 : H2 l2 = none := by rw [upd_ne hlD] at hl2; exact hl2
      have ek : rs.map (fun r => (r.length : Int)) = kindL p := by unfold kindL; rw [← up.eq]
      refine q l2 ms _ (s1.free hl22) ((s1.trans s2).upd_r (s1.free hl22)) (by rw [← ek]; exact pm) srt (fun x hx => bd x (pm.mem_iff.mp hx)) (by rw [pm.length_eq, List.length_map]; exact lrs) upd_same
end
end My
namespace My
open PySem L2 Mth
section
variable {P : Program} {w : World} {K : PySem.W.Frag} {mg : Str → Option Value} {base : Heap}
def spHome : Sp := fun vs H Q _ => ∃ (a : Addr) (p : List Int), vs = [.ref a] ∧ TurnAt H a p ∧ ∀ (h : Nat) (H' : Hp), Same H H' → IsLcm ((kindL p).map Int.toNat) h → Q (.int (h : Int)) H'
theorem scHome : FnScope ["p", "home", "length"] ["p"] (defScope s_home_of) := ⟨rfl, rfl, rfl, by decide +kernel, rfl, by decide +kernel, by decide +kernel⟩
theorem ok_home {f : Addr} {fd : FuncData} (F : Fun K "home_of" "home_of" s_home_of f fd) (cK : Cal P w K mg base "kind_of" 5 ["p"] spKind) (cG : Cal P w K mg base "greatest_part" 1 ["a", "b"] spGcd) : FnOk P w K mg base CX0 6 f fd ["p"] spHome := by
  refine F.ok scHome (fun vs H Q E h => ?_) (fun cdv A outer s H vs Q E hr h => ?_)
  · obtain ⟨a, p, rfl, _⟩ := h
    rfl
  · obtain ⟨a, p, rfl, ⟨ha, tp, lp⟩, q⟩ := h
    refine ⟨_, pss_cons (ps_set (i := 1) scHome.nd rfl (Or.inl rfl) pe_int)
      (pss_cons (ps_for PassesOwn.never rfl (pi_list (pe_cal cK hr (pa_cons (pv 0) pa_nil))) (pg_name (i := 2) scHome.nd rfl (Or.inl rfl)) (pss_one (ps_set (i := 1) scHome.nd rfl (Or.inl rfl) (pe_op op_mul (pe_op op_fdiv (pv 1) (pe_cal cG (hr.mono (by decide)) (pa_cons (pv 1) (pa_cons (pv 2) pa_nil)))) (pv 2)))))
      (pss_one (ps_ret (pv 1)))), ?_⟩
    refine ⟨_, rfl, a, p, rfl, ⟨ha, tp, lp⟩, fun l ms H1 hl s1 pm srt bd lm h1l => ?_⟩
    refine ⟨l, rfl, ⟨_, SqL.of h1l⟩, for_list (K := K) (a := l) (xs := ms.map V.int) (fun i σ H2 => ∃ (h : Nat) (v : Option V), σ = [some (.ref a), some (.int (h : Int)), v] ∧ H2 = H1 ∧ IsLcm ((ms.take i).map Int.toNat) h) ⟨1, none, rfl, rfl, IsLcm.nil⟩ (fun i σ H2 _ ⟨_, _, _, e, _⟩ => by rw [e]; exact SqL.of h1l) ?_ ?_⟩
    · rintro i y σ H2 hi ⟨h, v, rfl, rfl, lc⟩
      obtain ⟨z, hz, rfl⟩ := getElem_int hi
      obtain ⟨z1, z2⟩ := bd z (List.mem_of_getElem? hz)
      obtain ⟨zn, rfl⟩ := Int.eq_ofNat_of_zero_le (show 0 ≤ z by omega)
      have hpos := lc.pos
      have g0 : 0 < Nat.gcd h zn := Nat.gcd_pos_of_pos_left _ hpos
      have g1 : Nat.gcd h zn ≤ zn := Nat.le_of_dvd (by omega) (Nat.gcd_dvd_right h zn)
      refine ⟨_, rfl, _, rfl, _, rfl, h, zn, rfl, _, _, rfl, rfl, ⟨by omega, by omega⟩, _, rfl, _, _, rfl, rfl, .inr ⟨by omega, by omega⟩, ?_⟩
      refine ⟨Nat.lcm h zn, some (.int (zn : Int)), ?_, rfl, ?_⟩
      · have e : (h : Int) / (Nat.gcd h zn : Int) * (zn : Int) = ((Nat.lcm h zn : Nat) : Int) := by
          rw [← lcm_div, Int.natCast_mul, Int.natCast_ediv]
        show [some (V.ref a), some (V.int ((h : Int) / (Nat.gcd h zn : Int) * (zn : Int))), some (V.int (zn : Int))] = _
        rw [e]
      · rw [take_succ_of hz, List.map_append]
        exact lc.snoc (by omega)
    · rintro σ H2 ⟨h, v, rfl, rfl, lc⟩
      rw [List.length_map, List.take_length] at lc
      exact ⟨_, rfl, q h H2 s1 (lc.perm (pm.symm.map _))⟩
end
end My
namespace My
open PySem L2 Mth
section
variable {P : Program} {w : World} {K : PySem.W.Frag} {mg : Str → Option Value} {base : Heap}
def spFilled : Sp := fun vs H Q _ => ∃ (l : Addr) (as : List Addr) (rs : List (List Int)), vs = [.ref l] ∧ H l = some (.lst (as.map V.ref)) ∧ RowsH H as rs ∧ (∀ r ∈ rs, r ≠ []) ∧ Q (.bl true) H
theorem scFilled : FnScope ["rounds", "ring"] ["rounds"] (defScope s_are_filled_lists) := ⟨rfl, rfl, rfl, by decide +kernel, rfl, by decide +kernel, by decide +kernel⟩
theorem ok_filled {f : Addr} {fd : FuncData} (F : Fun K "are_filled_lists" "are_filled_lists" s_are_filled_lists f fd) (B : Bl mg) : FnOk P w K mg base CX0 1 f fd ["rounds"] spFilled := by
  refine F.ok scFilled (fun vs H Q E h => ?_) (fun cdv A outer s H vs Q E hr h => ?_)
  · obtain ⟨l, as, rs, rfl, _⟩ := h
    rfl
  · obtain ⟨l, as, rs, rfl, hl, rows, hne, q⟩ := h
    refine ⟨_, pss_cons (ps_if (pt_not (pt_val (pe_isi B.isi (pa_cons (pv 0) (pa_cons (pe_tyList B.list) pa_nil))))) (pss_one (ps_ret pe_bl)) pss_nil)
      (pss_cons (ps_for PassesOwn.never rfl (pi_list (pv 0)) (pg_name (i := 1) scFilled.nd rfl (Or.inl rfl))
        (pss_one (ps_if (pw_or (pt_not (pt_val (pe_isi B.isi (pa_cons (pv 1) (pa_cons (pe_tyList B.list) pa_nil))))) (pw_or1 (pt_cmpR op_eq (pe_lenL B.len (pa_cons (pv 1) pa_nil)) pe_int (nomark _)))).pt (pss_one (ps_ret pe_bl)) pss_nil)))
      (pss_one (ps_ret pe_bl))), ?_⟩
    refine ⟨_, rfl, _, "list", _, true, rfl, .lst hl, kit_same K "list", true, rfl, ?_⟩
    refine iteF ?_
    refine ⟨_, rfl, l, rfl, ⟨_, SqL.of hl⟩, for_list (K := K) (a := l) (xs := as.map V.ref) (fun i σ H2 => ∃ v : Option V, σ = [some (.ref l), v] ∧ H2 = H) ⟨none, rfl, rfl⟩ (fun i σ H2 _ ⟨_, _, e⟩ => by rw [e]; exact SqL.of hl) ?_ (fun σ H2 ⟨v, _, e⟩ => by rw [e]; exact q)⟩
    rintro i y σ H2 hi ⟨v, rfl, rfl⟩
    rw [List.getElem?_map] at hi
    cases hA : as[i]? with
    | none => rw [hA] at hi; cases hi
    | some e =>
      rw [hA] at hi
      cases hi
      have hil : i < as.length := (List.getElem?_eq_some_iff.mp hA).1
      have hri : rs[i]? = some (rs[i]'(by rw [← rows.1]; exact hil)) := List.getElem?_eq_getElem _
      generalize (rs[i]'(by rw [← rows.1]; exact hil)) = r at hri
      have he := rows.2 i e r hA hri
      have hrn := hne r (List.mem_of_getElem? hri)
      refine ⟨_, rfl, _, "list", _, true, rfl, .lst he, kit_same K "list", true, rfl, ?_⟩
      refine iteF ⟨_, rfl, e, _, rfl, .inl (SqL.of he), rfl, _, rfl, ?_⟩
      have hnz : ¬ V.int (((r.map V.int).length : Nat) : Int) = V.int 0 := fun z => by
        have z := V.int.inj z
        rw [List.length_map] at z
        have := List.length_pos_iff.mpr hrn
        omega
      rw [decide_eq_false hnz]
      exact iteF ⟨_, rfl, rfl⟩
def spThings : Sp := fun vs H Q _ => ∃ (l : Addr) (as : List Addr) (rs : List (List Int)), vs = [.ref l] ∧ H l = some (.lst (as.map V.ref)) ∧ RowsH H as rs ∧ rs.flatten.length ≤ 1000 ∧
  ∀ (o : Addr) (H' : Hp), H o = none → Same H H' → H' o = some (.lst (rs.flatten.map V.int)) → Q (.ref o) H'
theorem scThings : FnScope ["rounds", "things", "ring"] ["rounds"] (defScope s_things_in) := ⟨rfl, rfl, rfl, by decide +kernel, rfl, by decide +kernel, by decide +kernel⟩
theorem flat_take_le (rs : List (List Int)) (i : Nat) : (rs.take i).flatten.length ≤ rs.flatten.length := by
  conv => rhs; rw [← List.take_append_drop i rs, List.flatten_append, List.length_append]
  omega
theorem ok_things {f : Addr} {fd : FuncData} (F : Fun K "things_in" "things_in" s_things_in f fd) : FnOk P w K mg base CX0 1 f fd ["rounds"] spThings := by
  refine F.ok scThings (fun vs H Q E h => ?_) (fun cdv A outer s H vs Q E hr h => ?_)
  · obtain ⟨l, as, rs, rfl, _⟩ := h
    rfl
  · obtain ⟨l, as, rs, rfl, hl, rows, hb, q⟩ := h
    refine ⟨_, pss_cons (ps_set (i := 1) scThings.nd rfl (Or.inl rfl) (pe_lst pa_nil))
      (pss_cons (ps_for PassesOwn.never rfl (pi_list (pv 0)) (pg_name (i := 2) scThings.nd rfl (Or.inl rfl)) (pss_one (ps_expr (pe_extend (pv 1) (pa_cons (pv 2) pa_nil)))))
      (pss_one (ps_ret (pv 1)))), ?_⟩
    refine ⟨Nat.zero_le _, fun o ho => ?_⟩
    have s0 : Same H (upd H o (.lst [])) := Same.upd_new ho
    refine ⟨_, rfl, l, rfl, ⟨_, SqL.of (s0 l _ hl)⟩, for_list (K := K) (a := l) (xs := as.map V.ref) (fun i σ H2 => ∃ v : Option V, σ = [some (.ref l), some (.ref o), v] ∧ Same H H2 ∧ H2 o = some (.lst ((rs.take i).flatten.map V.int))) ⟨none, rfl, s0, upd_same⟩ (fun i σ H2 _ ⟨_, _, s, _⟩ => SqL.of (s l _ hl)) ?_ ?_⟩
    · rintro i y σ H2 hi ⟨v, rfl, s2, h2o⟩
      rw [List.getElem?_map] at hi
      cases hA : as[i]? with
      | none => rw [hA] at hi; cases hi
      | some e =>
        rw [hA] at hi
        cases hi
        have hil : i < as.length := (List.getElem?_eq_some_iff.mp hA).1
        have hri : rs[i]? = some (rs[i]'(by rw [← rows.1]; exact hil)) := List.getElem?_eq_getElem _
        generalize (rs[i]'(by rw [← rows.1]; exact hil)) = r at hri
        have he := s2 e _ (rows.2 i e r hA hri)
        have hle := flat_take_le rs (i + 1)
        rw [take_succ_of hri, List.flatten_append, List.flatten_singleton, List.length_append] at hle
        have h1000 := small1000 (Nat.le_refl 1000)
        refine ⟨_, rfl, .inl ⟨rfl, _, SqL.of h2o⟩, _, rfl, o, e, _, _, rfl, rfl, h2o, he, by rw [List.length_map, List.length_map]; omega, ?_⟩
        refine ⟨_, rfl, fun b u hb => by rw [upd_ne (ne_of_none hb ho)]; exact s2 b u hb, ?_⟩
        rw [upd_same, take_succ_of hri, List.flatten_append, List.flatten_singleton, List.map_append]
    · rintro σ H2 ⟨v, rfl, s2, h2o⟩
      rw [List.length_map, rows.1, List.take_length] at h2o
      exact ⟨_, rfl, q o H2 ho s2 h2o⟩
def spFrom : Sp := fun vs H Q _ => ∃ (l : Addr) (as : List Addr) (rs : List (List Int)), vs = [.ref l] ∧ H l = some (.lst (as.map V.ref)) ∧ RowsH H as rs ∧ (∀ r ∈ rs, r ≠ []) ∧ IsT rs.flatten ∧ rs.flatten.length ≤ 40 ∧
  ∀ (o : Addr) (t : List Int) (H' : Hp), H o = none → Same H H' → H' o = some (.lst (t.map V.int)) → t.length = rs.flatten.length → (∀ r ∈ rs, ∀ j, j < r.length → at0 t (r.getD j 0) = some (r.getD ((j + 1) % r.length) 0)) → Q (.ref o) H'
theorem scFrom : FnScope ["rounds", "told", "ring"] ["rounds"] (defScope s_from_rounds) := ⟨rfl, rfl, rfl, by decide +kernel, rfl, by decide +kernel, by decide +kernel⟩
theorem ok_from {f : Addr} {fd : FuncData} (F : Fun K "from_rounds" "from_rounds" s_from_rounds f fd) (cF : Cal P w K mg base "are_filled_lists" 1 ["rounds"] spFilled) (cT : Cal P w K mg base "things_in" 1 ["rounds"] spThings) (cI : Cal P w K mg base "is_turn" 2 ["thing"] spIsTurn)
    (cS : Cal P w K mg base "send_along" 1 ["target", "ring", "steps"] spSend) : FnOk P w K mg base CX0 3 f fd ["rounds"] spFrom := by
  refine F.ok scFrom (fun vs H Q E h => ?_) (fun cdv A outer s H vs Q E hr h => ?_)
  · obtain ⟨l, as, rs, rfl, _⟩ := h
    rfl
  · obtain ⟨l, as, rs, rfl, hl, rows, hne, tf, lf, q⟩ := h
    have hr1 : Room 1 _ := hr.mono (by decide)
    refine ⟨_, pss_cons (ps_if (pt_not (pt_val (pe_cal cF hr1 (pa_cons (pv 0) pa_nil)))) (pss_one ps_never) pss_nil)
      (pss_cons (ps_set (i := 1) scFrom.nd rfl (Or.inl rfl) (pe_cal cT hr1 (pa_cons (pv 0) pa_nil)))
      (pss_cons (ps_if (pt_not (pt_val (pe_cal cI hr (pa_cons (pv 1) pa_nil)))) (pss_one ps_never) pss_nil)
      (pss_cons (ps_for PassesOwn.never rfl (pi_list (pv 0)) (pg_name (i := 2) scFrom.nd rfl (Or.inl rfl)) (pss_one (ps_expr (pe_cal cS hr1 (pa_cons (pv 1) (pa_cons (pv 2) (pa_cons pe_int pa_nil)))))))
      (pss_one (ps_ret (pv 1)))))), ?_⟩
    refine ⟨_, rfl, l, as, rs, rfl, hl, rows, hne, true, rfl, ?_⟩
    refine iteF ?_
    refine ⟨_, rfl, l, as, rs, rfl, hl, rows, by omega, fun o H1 ho s1 h1o => ?_⟩
    refine ⟨_, rfl, o, _, rfl, h1o, fun bb H2 s2 hbb => ⟨bb, rfl, ?_⟩⟩
    have : bb = true := hbb.mpr ⟨lf, tf⟩
    subst this
    refine iteF ?_
    have s02 := s1.trans s2
    have h2o := s2 o _ h1o
    have h2l := s02 l _ hl
    have rows2 : RowsH H2 as rs := rows_keep rows fun c _ u hu => s02 c u hu
    have nlo : l ≠ o := ne_of_none hl ho
    refine ⟨_, rfl, l, rfl, ⟨_, SqL.of h2l⟩, for_list (K := K) (a := l) (xs := as.map V.ref) (fun i σ H3 => ∃ (ts : List Int) (v : Option V), σ = [some (.ref l), some (.ref o), v] ∧ H3 o = some (.lst (ts.map V.int)) ∧ ts.length = rs.flatten.length ∧ (∀ r ∈ rs.take i, ∀ j, j < r.length → at0 ts (r.getD j 0) = some (r.getD ((j + 1) % r.length) 0)) ∧ KeepBut o H2 H3)
      ⟨_, none, rfl, h2o, rfl, fun r hr => by simp at hr, KeepBut.refl o H2⟩ (fun i σ H3 _ ⟨_, _, _, _, _, _, k⟩ => SqL.of (k l _ h2l nlo)) ?_ ?_⟩
    · rintro i y σ H3 hi ⟨ts, v, rfl, h3o, lts, hts, kb⟩
      rw [List.getElem?_map] at hi
      cases hA : as[i]? with
      | none => rw [hA] at hi; cases hi
      | some e =>
        rw [hA] at hi
        cases hi
        have hil : i < as.length := (List.getElem?_eq_some_iff.mp hA).1
        have hri : rs[i]? = some (rs[i]'(by rw [← rows.1]; exact hil)) := List.getElem?_eq_getElem _
        generalize hR : (rs[i]'(by rw [← rows.1]; exact hil)) = r at hri
        have neo : o ≠ e := fun z => by
          have := rows.2 i e r hA hri
          rw [← z, ho] at this; cases this
        have h3e := kb e _ (rows2.2 i e r hA hri) neo.symm
        have hrm : r ∈ rs := List.mem_of_getElem? hri
        have hsplit : rs.flatten = (rs.take i).flatten ++ (r ++ (rs.drop (i + 1)).flatten) := by
          conv => lhs; rw [← List.take_append_drop i rs, List.flatten_append]
          rw [List.drop_eq_getElem_cons (by rw [← rows.1]; exact hil), hR, List.flatten_cons]
        have nds := tf.nd
        rw [hsplit] at nds
        obtain ⟨nd1, nd2, nd3⟩ := List.nodup_append.mp nds
        obtain ⟨ndr, _, _⟩ := List.nodup_append.mp nd2
        refine ⟨_, rfl, _, rfl, o, e, ts, r, 1, rfl, h3o, h3e, neo, ndr, fun x hx => ?_, fun ts' H4 l4 hj hu h4o kb4 => ?_⟩
        · have hxf : x ∈ rs.flatten := List.mem_flatten.mpr ⟨r, hrm, hx⟩
          exact ⟨tf.lo x hxf, by rw [lts]; exact tf.hi x hxf⟩
        refine ⟨ts', _, rfl, h4o, by omega, fun r' hr' j hj' => ?_, kb.trans kb4⟩
        rw [take_succ_of hri] at hr'
        rcases List.mem_append.mp hr' with g | g
        · have hx : r'.getD j 0 ∈ (rs.take i).flatten := by
            rw [getD_eq hj'] 
            exact List.mem_flatten.mpr ⟨r', g, List.getElem_mem hj'⟩
          have hxn : r'.getD j 0 ∉ r := fun z => nd3 _ hx _ (List.mem_append_left _ z) rfl
          have hx0 : 0 ≤ r'.getD j 0 := tf.lo _ (by rw [hsplit]; exact List.mem_append_left _ hx)
          rw [hu _ hx0 hxn]
          exact hts r' g j hj'
        · have : r' = r := by simpa using g
          subst this
          have h1 := hj j hj'
          have e1 : (((j : Int) + 1) % (r'.length : Int)).toNat = (j + 1) % r'.length := by
            have : ((j : Int) + 1) = ((j + 1 : Nat) : Int) := by omega
            rw [this, ← Int.natCast_emod, Int.toNat_natCast]
          rw [e1] at h1
          exact h1
    · rintro σ H3 ⟨ts, v, rfl, h3o, lts, hts, kb⟩
      rw [List.length_map, rows.1, List.take_length] at hts
      exact ⟨_, rfl, q o ts H3 ho (fun b u hb => kb b u (s02 b u hb) (ne_of_none hb ho)) h3o lts hts⟩
end
end My
namespace My
open PySem L2 Mth
section
variable {P : Program} {w : World} {K : PySem.W.Frag} {mg : Str → Option Value} {base : Heap}
def spFit (K : PySem.W.Frag) : Sp := fun vs H Q _ => ∃ (a b : Addr) (xs ys : List V), vs = [.ref a, .ref b] ∧ SqL K H a xs ∧ SqL K H b ys ∧ xs.length = ys.length ∧ Q .non H
theorem scFit : FnScope ["p", "q"] ["p", "q"] (defScope s_must_fit) := ⟨rfl, rfl, rfl, by decide +kernel, rfl, by decide +kernel, by decide +kernel⟩
theorem ok_fit {f : Addr} {fd : FuncData} (F : Fun K "must_fit" "must_fit" s_must_fit f fd) (B : Bl mg) : FnOk P w K mg base CX0 1 f fd ["p", "q"] (spFit K) := by
  refine F.ok scFit (fun vs H Q E h => ?_) (fun cdv A outer s H vs Q E hr h => ?_)
  · obtain ⟨a, b, xs, ys, rfl, _⟩ := h
    rfl
  · obtain ⟨a, b, xs, ys, rfl, ha, hb, hl, k⟩ := h
    refine ⟨_, pss_one (ps_if (pt_cmpR op_ne (pe_lenL B.len (pa_cons (pv 0) pa_nil)) (pe_lenL B.len (pa_cons (pv 1) pa_nil)) (nomark _)) (pss_one ps_never) pss_nil), ?_⟩
    refine ⟨_, rfl, a, xs, rfl, .inl ha, _, rfl, b, ys, rfl, .inl hb, rfl, _, rfl, ?_⟩
    refine iteNS (by rw [hl]) k
def spBehind : Sp := fun vs H Q _ => ∃ (a b : Addr) (p q : List Int), vs = [.ref a, .ref b] ∧ TurnAt H a p ∧ TurnAt H b q ∧ p.length = q.length ∧
  ∀ (l : Addr) (H' : Hp), H l = none → Same H H' → H' l = some (.lst ((comp p q).map V.int)) → Q (.ref l) H'
theorem scBehind : FnScope ["p", "q"] ["p", "q"] (defScope s_put_behind) := ⟨rfl, rfl, rfl, by decide +kernel, rfl, by decide +kernel, by decide +kernel⟩
theorem ndPlace : (["place", "p"] : List Str).Nodup := by decide +kernel
theorem ok_behind {f : Addr} {fd : FuncData} (F : Fun K "put_behind" "put_behind" s_put_behind f fd) (cM : Cal P w K mg base "must_be_turn" 3 ["thing"] spMust) (cF : Cal P w K mg base "must_fit" 1 ["p", "q"] (spFit K)) : FnOk P w K mg base CX0 4 f fd ["p", "q"] spBehind := by
  refine F.ok scBehind (fun vs H Q E h => ?_) (fun cdv A outer s H vs Q E hr h => ?_)
  · obtain ⟨a, b, p, q, rfl, _⟩ := h
    rfl
  · obtain ⟨a, b, p, q, rfl, ⟨ha, ta, la⟩, ⟨hb, tb, lb⟩, hl, k⟩ := h
    refine ⟨_, pss_cons (ps_expr (pe_cal cM hr (pa_cons (pv 0) pa_nil))) (pss_cons (ps_expr (pe_cal cM hr (pa_cons (pv 1) pa_nil))) (pss_cons (ps_expr (pe_cal cF (hr.mono (by decide)) (pa_cons (pv 0) (pa_cons (pv 1) pa_nil))))
      (pss_one (ps_ret (pe_comp (N := ["place", "p"]) (nl := 1) (fr := [0]) rfl .of (pi_list (pv 1)) (fun _ _ _ _ _ => pg_name (i := 0) ndPlace rfl (Or.inl rfl)) (fun _ _ _ _ _ => pifs_nil) (fun _ _ _ _ _ => pe_ix (r := rIxL K) ix_list (pv 1) (pv 0) (fun _ _ => rfl))))))), ?_⟩
    refine ⟨_, rfl, a, p, rfl, ⟨ha, ta, la⟩, fun H1 s1 => ?_⟩
    refine ⟨_, rfl, b, q, rfl, ⟨s1 _ _ hb, tb, lb⟩, fun H2 s2 => ?_⟩
    have s02 := s1.trans s2
    refine ⟨_, rfl, _, rfl, a, b, _, _, rfl, SqL.of (s02 _ _ ha), SqL.of (s02 _ _ hb), by simpa using hl, ?_⟩
    refine ⟨_, rfl, b, rfl, ⟨_, SqL.of (s02 _ _ hb)⟩, comp_list (K := K) (a := b) (xs := q.map V.int) (fun i ys σ H3 => ∃ v, σ = [v, some (.ref a)] ∧ H3 = H2 ∧ ys = (comp p (q.take i)).map V.int) ⟨none, rfl, rfl, rfl⟩ (fun i ys σ H3 _ ⟨_, _, e, _⟩ => by rw [e]; exact SqL.of (s02 _ _ hb)) ?_ ?_⟩
    · rintro i x ys σ H3 hi ⟨v, rfl, rfl, rfl⟩
      obtain ⟨z, hz, rfl⟩ := getElem_int hi
      have hzq := List.mem_of_getElem? hz
      refine ⟨_, rfl, _, rfl, a, _, z, _, rfl, rfl, SqL.of (s02 _ _ ha), atI_map (tb.lo z hzq) (by have := tb.hi z hzq; omega), ?_, ?_⟩
      · refine small1000 ?_
        unfold comp
        rw [List.length_map, List.length_map, List.length_take]
        omega
      · refine ⟨_, rfl, rfl, ?_⟩
        rw [take_succ_of hz]
        unfold comp
        rw [List.map_append, List.map_append]
        rfl
    · rintro ys σ H3 ⟨v, rfl, rfl, rfl⟩ D hD
      rw [List.length_map, List.take_length]
      exact k D _ (s02.free hD) (s02.upd_r (s02.free hD)) upd_same
end
end My
namespace My
open PySem L2 Mth
section
variable {P : Program} {w : World} {K : PySem.W.Frag} {mg : Str → Option Value} {base : Heap}
def spBack : Sp := fun vs H Q _ => ∃ (a : Addr) (p : List Int), vs = [.ref a] ∧ TurnAt H a p ∧ ∀ (l : Addr) (t : List Int) (H' : Hp), H l = none → Same H H' → PowIs p (-1) t → H' l = some (.lst (t.map V.int)) → Q (.ref l) H'
theorem scBack : FnScope ["p"] ["p"] (defScope s_way_back) := ⟨rfl, rfl, rfl, by decide +kernel, rfl, by decide +kernel, by decide +kernel⟩
theorem ok_back {f : Addr} {fd : FuncData} (F : Fun K "way_back" "way_back" s_way_back f fd) (cP : Cal P w K mg base "power_of" 4 ["p", "k"] spPower) : FnOk P w K mg base CX0 5 f fd ["p"] spBack := by
  refine F.ok scBack (fun vs H Q E h => ?_) (fun cdv A outer s H vs Q E hr h => ?_)
  · obtain ⟨a, p, rfl, _⟩ := h
    rfl
  · obtain ⟨a, p, rfl, ta, q⟩ := h
    refine ⟨_, pss_one (ps_ret (pe_cal cP hr (pa_cons (pv 0) (pa_cons (pe_un un_neg pe_int) pa_nil)))), ?_⟩
    exact ⟨_, rfl, _, rfl, a, p, -1, rfl, ta, q⟩
end
end My
namespace My
open PySem L2 Mth
section
variable {P : Program} {w : World} {K : PySem.W.Frag} {mg : Str → Option Value} {base : Heap}
def spBegun : Sp := fun vs H Q _ => ∃ (a : Addr) (q : List Int) (z : Int) (L : Nat), vs = [.ref a] ∧ H a = some (.lst ((ringL q z L).map V.int)) ∧ IsT q ∧ Mth.In q z ∧ Per q z L ∧ q.length ≤ 40 ∧
  ∀ (l : Addr) (k : Nat) (H' : Hp), H l = none → Same H H' → k < L → (∀ y ∈ ringL q z L, it q k z ≤ y) → H' l = some (.lst ((ringL q (it q k z) L).map V.int)) → Q (.ref l) H'
theorem sc_law_begun : FnScope ["one", "at"] ["one"] (defScope s_law_begun) := ⟨rfl, rfl, rfl, by decide +kernel, rfl, by decide +kernel, by decide +kernel⟩
theorem ok_law_begun {f : Addr} {fd : FuncData} (F : Fun K "_law_begun" "_law_begun" s_law_begun f fd) (B : Bl mg) : FnOk P w K mg base CX0 1 f fd ["one"] spBegun := by
  refine F.ok sc_law_begun (fun vs H Q E h => ?_) (fun cdv A outer s H vs Q E hr h => ?_)
  · obtain ⟨a, q, z, L, rfl, ha, tq, hz, pr, lq, qq⟩ := h
    rfl
  · obtain ⟨a, q, z, L, rfl, ha, tq, hz, pr, lq, qq⟩ := h
    refine ⟨_, @pss_cons _ _ _ _ _ (@ps_set _ _ (1) _ _ _ _ sc_law_begun.nd rfl (Or.inl rfl) (@pe_index _ K _ _ _ _ _ _ (pv 0) (@pa_cons _ _ _ _ _ (@pe_minL _ _ _ _ _ rfl B.min (@pa_cons _ _ _ _ _ (pv 0) (@pa_nil _) (by rfl)) (by rfl) (by rfl)) (@pa_nil _) (by rfl)) (by rfl) (by rfl) (by rfl) (by rfl) (by rfl) (by rfl)) (by rfl) (by first | exact .inl rfl | exact .inr rfl | assumption)) (@pss_one _ _ _ (@ps_ret _ _ _ _ (@pe_op _ _ _ _ _ _ _ _ op_cat (@pe_slice _ _ _ _ _ _ _ _ _ _ sl_list (pv 0) (@po_some _ _ _ (pv 1)) (@po_none _)) (@pe_slice _ _ _ _ _ _ _ _ _ _ sl_list (pv 0) (@po_none _) (@po_some _ _ _ (pv 1)))))), ?_⟩
    have hL := ring_bound tq hz (m := L) fun i i0 i1 => pr.least i i0 i1
    have hpos := pr.pos
    have self : z ∈ ringL q z L := mem_ringL.mpr ⟨0, pr.pos, rfl⟩
    refine ⟨_, rfl, .inl ⟨rfl, _, SqL.of ha⟩, _, rfl, a, ringL q z L, rfl, SqL.of ha, (fun e => by rw [e] at self; cases self), fun mn hmn hle => ?_⟩
    obtain ⟨k, hk, rfl⟩ := mem_ringL.mp hmn
    have nd := ringL_nodup tq hz (m := L) fun i i0 i1 => pr.least i i0 i1
    refine ⟨a, _, _, k, rfl, rfl, ha, ringL_get hk, fun i hi e => ?_, by rw [ringL_len]; omega, ?_⟩
    · have e2 := ringL_get (p := q) (x := z) hk
      rw [← e] at e2
      have := (List.getElem?_inj (by rw [ringL_len]; omega) nd).mp e2.symm
      omega
    refine ⟨_, rfl, _, rfl, _, rfl, a, _, rfl, SqL.of ha, fun c1 hc1 => ?_⟩
    rw [cut_from _ k (by rw [List.length_map, ringL_len]; omega), ← List.map_drop]
    have s1 : Same H (upd H c1 (.lst (((ringL q z L).drop k).map V.int))) := Same.upd_new hc1
    have h1 : (upd H c1 (.lst (((ringL q z L).drop k).map V.int))) c1 = some (.lst (((ringL q z L).drop k).map V.int)) := upd_same
    generalize (upd H c1 (.lst (((ringL q z L).drop k).map V.int))) = H1 at s1 h1 ⊢
    refine ⟨_, rfl, _, rfl, _, rfl, a, _, rfl, SqL.of (s1 _ _ ha), fun c2 hc2 => ?_⟩
    rw [cut_to _ k (by rw [List.length_map, ringL_len]; omega), ← List.map_take]
    have s2 : Same H1 (upd H1 c2 (.lst (((ringL q z L).take k).map V.int))) := Same.upd_new hc2
    have h2 : (upd H1 c2 (.lst (((ringL q z L).take k).map V.int))) c2 = some (.lst (((ringL q z L).take k).map V.int)) := upd_same
    generalize (upd H1 c2 (.lst (((ringL q z L).take k).map V.int))) = H2 at s2 h2 ⊢
    refine ⟨c1, c2, _, _, rfl, rfl, s2 _ _ h1, h2, Nat.le_of_lt (small1000 (by simp only [List.length_map, List.length_drop, List.length_take, ringL_len, List.length_append]; omega)), fun c3 hc3 => ?_⟩
    rw [← List.map_append, ringL_rot pr (by omega)]
    have s12 := s1.trans s2
    exact qq c3 k _ (s12.free hc3) (s12.trans (Same.upd_new hc3)) hk hle upd_same
structure Told (p : List Int) (qs : List (List Int)) : Prop where
  ring : ∀ r ∈ qs, ∃ y L, Mth.In p y ∧ Per p y L ∧ r = ringL p y L
  flat : qs.flatten.Perm (upTo 0 p.length)
theorem Told.isT {p : List Int} {qs : List (List Int)} (h : Told p qs) : IsT qs.flatten ∧ qs.flatten.length = p.length := isT_of_perm h.flat
theorem Told.ne {p : List Int} {qs : List (List Int)} (h : Told p qs) : ∀ r ∈ qs, r ≠ [] := fun r hr e => by
  obtain ⟨y, L, _, pr, er⟩ := h.ring r hr
  have := ringL_len p y L
  rw [← er, e] at this
  have := pr.pos
  simp at *
  omega
theorem Told.leads {p t : List Int} {qs : List (List Int)} (tp : IsT p) (h : Told p qs) (hl : t.length = qs.flatten.length) (al : ∀ r ∈ qs, ∀ j, j < r.length → at0 t (r.getD j 0) = some (r.getD ((j + 1) % r.length) 0)) : t = p := by
  have lp := h.isT.2
  refine ext_nx (n := p.length) (by omega) rfl fun x x0 x1 => ?_
  obtain ⟨r, hr, hxr⟩ := List.mem_flatten.mp (h.flat.mem_iff.mpr (mem_upTo.mpr ⟨x0, x1⟩))
  obtain ⟨y, L, hy, pr, er⟩ := h.ring r hr
  rw [er] at hxr
  obtain ⟨jj, hjj, rfl⟩ := mem_ringL.mp hxr
  have rl : r.length = L := by rw [er, ringL_len]
  have h1 := al r hr jj (by omega)
  rw [rl, er, ringL_getD hjj, ringL_getD (Nat.mod_lt _ pr.pos), it_mod pr.back] at h1
  rw [nx_at0 (p := t) ⟨x0, by omega⟩] at h1
  exact Option.some.inj h1
theorem told_up {p : List Int} (tp : IsT p) {rs : List (List Int)} (up : RingsUp p p.length rs) : Told p rs := ⟨fun r hr => by
  obtain ⟨x, L, a, b, c, _, _⟩ := up.ring r hr
  exact ⟨x, L, a, b, c⟩, up_flat tp up⟩
def spTurned : Sp := fun vs H Q _ => ∃ (g a : Addr) (p : List Int) (as : List Addr) (rs : List (List Int)) (c : Nat), vs = [.ref g, .ref a] ∧ PoolAt H g c ∧ c ≤ 800000 ∧ a ≠ g ∧ IsT p ∧ p.length ≤ 40 ∧ H a = some (.lst (as.map V.ref)) ∧ RowsH H as rs ∧ Told p rs ∧ g ∉ as ∧
  ∀ (l : Addr) (cs : List Addr) (qs : List (List Int)) (H' : Hp), H l = none → H' l = some (.lst (cs.map V.ref)) → RowsH H' cs qs → Told p qs → PoolAt H' g (c + 200) → KeepBut g H H' → Q (.ref l) H'
theorem told_len {p : List Int} {rs : List (List Int)} (h : Told p rs) : rs.length ≤ p.length := by
  rw [← h.isT.2]
  have : ∀ qs : List (List Int), (∀ r ∈ qs, r ≠ []) → qs.length ≤ qs.flatten.length := by
    intro qs
    induction qs with
    | nil => intro _; exact Nat.le_refl _
    | cons r qs ih =>
      intro ne
      have := ih fun q hq => ne q (List.mem_cons_of_mem _ hq)
      have : 0 < r.length := List.length_pos_iff.mpr (ne r List.mem_cons_self)
      rw [List.flatten_cons, List.length_append, List.length_cons]
      omega
  exact this rs h.ne
theorem sc_law_turned_rounds : FnScope ["pool", "rounds", "found", "one", "at"] ["pool", "rounds"] (defScope s_law_turned_rounds) := ⟨rfl, rfl, rfl, by decide +kernel, rfl, by decide +kernel, by decide +kernel⟩
theorem ok_law_turned_rounds {f : Addr} {fd : FuncData} (F : Fun K "_law_turned_rounds" "_law_turned_rounds" s_law_turned_rounds f fd) (B : Bl mg) (c_law_mixed_up : Cal P w K mg base "_law_mixed_up" 2 ["pool", "things"] (spMixed K)) (c_law_take : Cal P w K mg base "_law_take" 1 ["pool", "many"] spTake) : FnOk P w K mg base CX0 3 f fd ["pool", "rounds"] spTurned := by
  refine F.ok sc_law_turned_rounds (fun vs H Q E h => ?_) (fun cdv A outer s H vs Q E hr h => ?_)
  · obtain ⟨g, a, p, as, rs, c, rfl, hp, hc, nag, tp, lp, ha, rows, td, gas, q⟩ := h
    rfl
  · obtain ⟨g, a, p, as, rs, c, rfl, hp, hc, nag, tp, lp, ha, rows, td, gas, q⟩ := h
    have hr_law_mixed_up : Room 2 _ := hr.mono (by decide)
    have hr_law_take : Room 1 _ := hr.mono (by decide)
    refine ⟨_, @pss_cons _ _ _ _ _ (@ps_set _ _ (2) _ _ _ _ sc_law_turned_rounds.nd rfl (Or.inl rfl) (@pe_lst _ _ _ _ (@pa_nil _)) (by rfl) (by first | exact .inl rfl | exact .inr rfl | assumption)) (@pss_cons _ _ _ _ _ (@ps_for _ _ _ _ _ _ _ _ PassesOwn.never rfl (@pi_list _ _ _ _ (@pe_cal _ _ _ _ _ _ _ _ _ _ c_law_mixed_up hr_law_mixed_up (@pa_cons _ _ _ _ _ (pv 0) (@pa_cons _ _ _ _ _ (pv 1) (@pa_nil _) (by rfl)) (by rfl)) (by rfl) (by decide) (by rfl) (by rfl))) (@pg_name _ _ (3) _ sc_law_turned_rounds.nd rfl (Or.inl rfl) (by first | exact .inl rfl | exact .inr rfl | assumption)) (@pss_cons _ _ _ _ _ (@ps_set _ _ (4) _ _ _ _ sc_law_turned_rounds.nd rfl (Or.inl rfl) (@pe_cal _ _ _ _ _ _ _ _ _ _ c_law_take hr_law_take (@pa_cons _ _ _ _ _ (pv 0) (@pa_cons _ _ _ _ _ (@pe_lenL _ _ _ _ _ B.len (@pa_cons _ _ _ _ _ (pv 3) (@pa_nil _) (by rfl)) (by rfl) (by rfl)) (@pa_nil _) (by rfl)) (by rfl)) (by rfl) (by decide) (by rfl) (by rfl)) (by rfl) (by first | exact .inl rfl | exact .inr rfl | assumption)) (@pss_one _ _ _ (@ps_expr _ _ _ _ (@pe_append _ _ _ _ _ _ _ (pv 2) (@pa_cons _ _ _ _ _ (@pe_op _ _ _ _ _ _ _ _ op_cat (@pe_slice _ _ _ _ _ _ _ _ _ _ sl_list (pv 3) (@po_some _ _ _ (pv 4)) (@po_none _)) (@pe_slice _ _ _ _ _ _ _ _ _ _ sl_list (pv 3) (@po_none _) (@po_some _ _ _ (pv 4)))) (@pa_nil _) (by rfl)) (by rfl) (by rfl) (by rfl) (by rfl) (by rfl)) (by rfl)))) (by intro _; rfl)) (@pss_one _ _ _ (@ps_ret _ _ _ _ (pv 2)))), ?_⟩
    refine ⟨Nat.zero_le _, fun l hl => ?_⟩
    obtain ⟨x0, y0, z0, hga, hz0, hz0'⟩ := id hp
    have ngl : g ≠ l := ne_of_none hga hl
    have s1 : Same H (upd H l (.lst [])) := Same.upd_new hl
    have h1l : (upd H l (.lst [])) l = some (.lst []) := upd_same
    generalize (upd H l (.lst [])) = H1 at s1 h1l ⊢
    have P1 : PoolAt H1 g c := ⟨x0, y0, z0, s1 g _ hga, hz0, hz0'⟩
    have lrs := told_len td
    have las : as.length ≤ 40 := by rw [rows.1]; omega
    refine ⟨_, rfl, _, rfl, g, a, c, as.map V.ref, rfl, P1, by rw [List.length_map]; omega, SqL.of (s1 _ _ ha), by rw [List.length_map]; omega, fun mx ys H3 hmx hperm h3mx P3 kb23 => ?_⟩
    obtain ⟨as', rfl, hpr⟩ := perm_refs hperm
    have nmg : mx ≠ g := fun z => by rw [z, s1 g _ hga] at hmx; cases hmx
    have h3l := kb23 l _ h1l ngl.symm
    have nml : mx ≠ l := fun z => by rw [z, h1l] at hmx; cases hmx
    have kb03 : KeepBut g H H3 := fun b o hb hn => kb23 b o (s1 b o hb) hn
    have P3 := P3.mono (d := c + 40) (by rw [List.length_map]; omega)
    have hrow : as.map (rowOf H) = rs := rows_rowOf rows
    have nasg : ∀ e ∈ as, e ≠ g ∧ e ≠ l ∧ ∃ x L, Mth.In p x ∧ Per p x L ∧ rowOf H e = ringL p x L ∧ H e = some (.lst ((ringL p x L).map V.int)) := fun e he => by
      obtain ⟨j, hj⟩ := List.mem_iff_getElem?.mp he
      have hjl := (List.getElem?_eq_some_iff.mp hj).1
      have hrj : rs[j]? = some (rs[j]'(by rw [← rows.1]; exact hjl)) := List.getElem?_eq_getElem _
      have h2e := rows.2 j e _ hj hrj
      obtain ⟨x, L, hx, pr, er⟩ := td.ring _ (List.mem_of_getElem? hrj)
      refine ⟨fun z => gas (z ▸ he), fun z => ?_, x, L, hx, pr, by rw [rowOf_eq h2e, er], by rw [← er]; exact h2e⟩
      rw [z, hl] at h2e; cases h2e
    refine ⟨mx, rfl, ⟨_, SqL.of h3mx⟩, for_list (K := K) (a := mx) (xs := as'.map V.ref) (fun i σ H4 => ∃ (cs : List Addr) (qs : List (List Int)) (v3 v4 : Option V), σ = [some (.ref g), some (.ref a), some (.ref l), v3, v4] ∧ H4 l = some (.lst (cs.map V.ref)) ∧ RowsH H4 cs qs ∧ cs.length = i ∧ l ∉ cs ∧ g ∉ cs ∧ (∀ r ∈ qs, ∃ y L, Mth.In p y ∧ Per p y L ∧ r = ringL p y L) ∧ qs.flatten.Perm (((as'.take i).map (rowOf H)).flatten) ∧ PoolAt H4 g (c + 40 + i) ∧ (∀ b o, H3 b = some o → b ≠ g → b ≠ l → H4 b = some o))
      ⟨[], [], none, none, rfl, h3l, ⟨rfl, fun j b r h => by simp at h⟩, rfl, by simp, by simp, fun r hr => by simp at hr, List.Perm.refl _, P3, fun b o h _ _ => h⟩
      (fun i σ H4 _ ⟨_, _, _, _, _, _, _, _, _, _, _, _, _, k⟩ => SqL.of (k mx _ h3mx nmg nml)) ?_ ?_⟩
    · rintro i y σ H4 hi ⟨cs, qs, v3, v4, rfl, h4l, rowsC, lcs, nlc, ngc, hring, hflat, P4, k4⟩
      rw [List.getElem?_map] at hi
      cases hA : as'[i]? with
      | none => rw [hA] at hi; cases hi
      | some e =>
        rw [hA] at hi
        cases hi
        have hil : i < as'.length := (List.getElem?_eq_some_iff.mp hA).1
        have lpr := hpr.length_eq
        have hea : e ∈ as := hpr.mem_iff.mp (List.mem_of_getElem? hA)
        obtain ⟨neg, nel, x, L, hx, pr, erow, h0e⟩ := nasg e hea
        have h4e := k4 e _ (kb03 e _ h0e neg) neg nel
        have hL40 := ring_bound tp hx (m := L) fun i i0 i1 => pr.least i i0 i1
        have hpos := pr.pos
        refine ⟨_, rfl, _, rfl, e, _, rfl, .inl (SqL.of h4e), ?_⟩
        rw [List.length_map, ringL_len]
        refine ⟨g, c + 40 + i, (L : Int), rfl, P4, by omega, by omega, by omega, fun at_ H5 at0' at1 P5 kb45 => ?_⟩
        obtain ⟨k, rfl⟩ := Int.eq_ofNat_of_zero_le at0'
        have h5e := kb45 e _ h4e neg
        have h5l := kb45 l _ h4l ngl.symm
        refine ⟨_, rfl, .inl ⟨rfl, _, SqL.of h5l⟩, _, rfl, _, rfl, _, rfl, e, _, rfl, SqL.of h5e, fun c1 hc1 => ?_⟩
        rw [cut_from _ k (by rw [List.length_map, ringL_len]; omega), ← List.map_drop]
        have s6 : Same H5 (upd H5 c1 (.lst (((ringL p x L).drop k).map V.int))) := Same.upd_new hc1
        have h6c : (upd H5 c1 (.lst (((ringL p x L).drop k).map V.int))) c1 = some (.lst (((ringL p x L).drop k).map V.int)) := upd_same
        generalize (upd H5 c1 (.lst (((ringL p x L).drop k).map V.int))) = H6 at s6 h6c ⊢
        refine ⟨_, rfl, _, rfl, _, rfl, e, _, rfl, SqL.of (s6 _ _ h5e), fun c2 hc2 => ?_⟩
        rw [cut_to _ k (by rw [List.length_map, ringL_len]; omega), ← List.map_take]
        have s7 : Same H6 (upd H6 c2 (.lst (((ringL p x L).take k).map V.int))) := Same.upd_new hc2
        have h7c : (upd H6 c2 (.lst (((ringL p x L).take k).map V.int))) c2 = some (.lst (((ringL p x L).take k).map V.int)) := upd_same
        generalize (upd H6 c2 (.lst (((ringL p x L).take k).map V.int))) = H7 at s7 h7c ⊢
        refine ⟨c1, c2, _, _, rfl, rfl, s7 _ _ h6c, h7c, Nat.le_of_lt (small1000 (by simp only [List.length_map, List.length_drop, List.length_take, ringL_len, List.length_append]; omega)), fun c3 hc3 => ?_⟩
        rw [← List.map_append, ringL_rot pr (by omega)]
        have s57 := s6.trans s7
        have s58 : Same H5 (upd H7 c3 (.lst ((ringL p (it p k x) L).map V.int))) := s57.trans (Same.upd_new hc3)
        have h8c : (upd H7 c3 (.lst ((ringL p (it p k x) L).map V.int))) c3 = some (.lst ((ringL p (it p k x) L).map V.int)) := upd_same
        have hc35 : H5 c3 = none := s57.free hc3
        generalize (upd H7 c3 (.lst ((ringL p (it p k x) L).map V.int))) = H8 at s58 h8c ⊢
        have h8l := s58 l _ h5l
        have nlc3 : l ≠ c3 := ne_of_none h5l hc35
        refine ⟨l, _, _, rfl, rfl, h8l, small1000 (by rw [List.length_map]; omega), ?_⟩
        obtain ⟨x5, y5, z5, h5g, hz5, hz5'⟩ := id P5
        have ngc3 : g ≠ c3 := ne_of_none h5g hc35
        refine ⟨cs ++ [c3], qs ++ [ringL p (it p k x) L], _, _, rfl, by rw [upd_same, List.map_append]; rfl, ?_, by rw [List.length_append, lcs]; rfl, ?_, ?_, ?_, ?_, ⟨x5, y5, z5, by rw [upd_ne ngl]; exact s58 g _ h5g, hz5, by omega⟩, fun b o hb hbg hbl => ?_⟩
        · refine rows_snoc (rows_keep rowsC fun b hb o ho => ?_) (by rw [upd_ne nlc3.symm]; exact h8c)
          have hbl : b ≠ l := fun z => nlc (by rw [← z]; exact hb)
          have hbg : b ≠ g := fun z => ngc (by rw [← z]; exact hb)
          rw [upd_ne hbl]
          exact s58 b o (kb45 b o ho hbg)
        · intro z
          rcases List.mem_append.mp z with z | z
          · exact nlc z
          · exact nlc3 (by simpa using z)
        · intro z
          rcases List.mem_append.mp z with z | z
          · exact ngc z
          · exact ngc3 (by simpa using z)
        · intro r hr'
          rcases List.mem_append.mp hr' with z | z
          · exact hring r z
          · have : r = ringL p (it p k x) L := by simpa using z
            exact ⟨_, L, it_in tp hx k, pr.shift tp hx k, this⟩
        · rw [take_succ_of hA, List.map_append, List.flatten_append, List.flatten_append]
          refine List.Perm.append hflat ?_
          show ([ringL p (it p k x) L]).flatten.Perm ([rowOf H e]).flatten
          rw [List.flatten_singleton, List.flatten_singleton, erow, ← ringL_rot pr (show k ≤ L by omega)]
          exact rot_perm _ _
        · rw [upd_ne hbl]
          exact s58 b o (kb45 b o (k4 b o hb hbg hbl) hbg)
    · rintro σ H4 ⟨cs, qs, v3, v4, rfl, h4l, rowsC, lcs, nlc, ngc, hring, hflat, P4, k4⟩
      rw [List.length_map] at lcs P4
      have lpr := hpr.length_eq
      rw [List.length_map, List.take_length] at hflat
      have hfl2 : qs.flatten.Perm (upTo 0 p.length) := by
        have h1 : ((as'.map (rowOf H)).flatten).Perm ((as.map (rowOf H)).flatten) := List.Perm.flatten (hpr.map _)
        rw [hrow] at h1
        exact hflat.trans (h1.trans td.flat)
      refine ⟨_, rfl, q l cs qs H4 hl h4l rowsC ⟨hring, hfl2⟩ (P4.mono (by omega)) fun b o hb hn => k4 b o (kb03 b o hb hn) hn (ne_of_none hb hl)⟩
theorem pool_same {H H' : Hp} {g : Addr} {c : Nat} (h : PoolAt H g c) (s : Same H H') : PoolAt H' g c := by
  obtain ⟨x, y, z, h1, h2⟩ := h
  exact ⟨x, y, z, s _ _ h1, h2⟩
theorem pool_ne {H : Hp} {g b : Addr} {c : Nat} (h : PoolAt H g c) (hb : H b = none) : b ≠ g := by
  obtain ⟨x, y, z, h1, _⟩ := h
  exact fun e => by rw [e, h1] at hb; cases hb
theorem up_eq {ms r : List Int} (h : ms.Perm r) (s : ms.Pairwise (· ≤ ·)) (hr : r.Pairwise (· ≤ ·)) : ms = r := by
  have := sorted_same (a := ms.reverse) (b := r.reverse) (((List.reverse_perm ms).trans h).trans (List.reverse_perm _).symm) (reverse_falling s) (reverse_falling hr)
  exact List.reverse_inj.mp this
theorem upTo_up (n : Nat) : (upTo 0 n).Pairwise (· ≤ ·) := by
  unfold L2.upTo
  exact List.pairwise_map.mpr (List.Pairwise.imp (fun {a b} (h : a < b) => by omega) List.pairwise_lt_range)
theorem kind_perm {p q : List Int} (h : ∀ l, cntL (ringsF q q.length) l = cntL (ringsF p p.length) l) : (kindL q).Perm (kindL p) := by
  refine List.perm_iff_count.mpr fun x => ?_
  have key : ∀ t : List Int, (kindL t).count x = if 0 ≤ x then cntL (ringsF t t.length) x.toNat else 0 := fun t => by
    unfold kindL
    rw [List.count_eq_countP, List.countP_map]
    split
    · unfold cntL
      refine List.countP_congr fun r _ => ?_
      simp only [Function.comp, beq_iff_eq, decide_eq_true_eq]
      omega
    · refine List.countP_eq_zero.mpr fun r _ => ?_
      simp only [Function.comp, beq_iff_eq]
      omega
  rw [key, key, h]
theorem home_same {p q : List Int} (pm : (kindL q).Perm (kindL p)) {a b : Nat} (ha : IsLcm ((kindL q).map Int.toNat) a) (hb : IsLcm ((kindL p).map Int.toNat) b) : a = b := (ha.perm (pm.map Int.toNat).symm).uniq hb
theorem kind_lens (p : List Int) : (kindL p).map Int.toNat = (ringsF p p.length).map List.length := by
  unfold kindL
  rw [List.map_map]
  exact List.map_congr_left fun r _ => by show (r.length : Int).toNat = r.length; omega
theorem home_pow {p t : List Int} {k : Int} (tp : IsT p) (h : PowIs p k t) {a b : Nat} (ha : HomeIs p a) (hb : HomeIs t b) : b ∣ a := by
  refine hb.least a fun x hx => ?_
  have hx' : Mth.In p x := ⟨hx.1, by have := hx.2; rw [h.1] at this; exact this⟩
  obtain ⟨L, pr⟩ := per_ex tp hx'
  have pt := per_pow tp h hx' pr (nat_like k L pr.pos)
  rw [perOf_eq pt]
  have hd := ha.up x hx'
  rw [perOf_eq pr] at hd
  exact Nat.dvd_trans (Nat.div_dvd_of_dvd (Nat.gcd_dvd_left _ _)) hd
theorem mod_home {a b : Nat} (h : b ∣ a) : ((a : Int) % (b : Int)) = 0 := Int.emod_eq_zero_of_dvd (Int.natCast_dvd_natCast.mpr h)
theorem map_nx_upTo {s : List Int} {n : Nat} (h : s.length = n) : (upTo 0 n).map (nx s) = s := by
  unfold L2.upTo
  rw [List.map_map]
  refine List.ext_getElem (by simp [h]) fun i h1 h2 => ?_
  rw [List.getElem_map, List.getElem_range]
  show s.getD ((0 : Int) + (i : Int)).toNat 0 = _
  rw [show ((0 : Int) + (i : Int)).toNat = i by omega, List.getD_eq_getElem?_getD, List.getElem?_eq_getElem h2]
  rfl
def spLaw (K : PySem.W.Frag) : Sp := fun vs H Q _ => ∃ (a : Addr) (ns : List Int), vs = [.ref a] ∧ SqL K H a (ns.map V.int) ∧ ns.length ≤ 63 ∧ ∀ H', Q (.bl true) H'
theorem sc_law : FnScope ["script", "k", "pool", "p", "rounds", "things", "one", "s", "q", "other"] ["script"] (defScope s_law) := ⟨rfl, rfl, rfl, by decide +kernel, rfl, by decide +kernel, by decide +kernel⟩
theorem nd_one_law : (["one"] : List Str).Nodup := by decide +kernel
theorem nd_one_s_law : (["one", "s"] : List Str).Nodup := by decide +kernel
theorem nd_thing_s_law : (["thing", "s"] : List Str).Nodup := by decide +kernel
theorem ok_law {f : Addr} {fd : FuncData} (F : Fun K "law" "law" s_law f fd) (B : Bl mg) (c_law_pool : Cal P w K mg base "_law_pool" 1 ["script", "k"] (spPool K)) (c_law_turn : Cal P w K mg base "_law_turn" 4 ["pool", "most"] spTurn) (c_rounds_of : Cal P w K mg base "rounds_of" 4 ["p"] spRings) (c_from_rounds : Cal P w K mg base "from_rounds" 3 ["rounds"] spFrom) (c_law_turned_rounds : Cal P w K mg base "_law_turned_rounds" 3 ["pool", "rounds"] spTurned) (c_way_back : Cal P w K mg base "way_back" 5 ["p"] spBack) (c_law_begun : Cal P w K mg base "_law_begun" 1 ["one"] spBegun) (c_kind_of : Cal P w K mg base "kind_of" 5 ["p"] spKind) (c_law_mixed_up : Cal P w K mg base "_law_mixed_up" 2 ["pool", "things"] (spMixed K)) (c_put_behind : Cal P w K mg base "put_behind" 4 ["p", "q"] spBehind) (c_home_of : Cal P w K mg base "home_of" 6 ["p"] spHome) (c_power_of : Cal P w K mg base "power_of" 4 ["p", "k"] spPower) (c_law_take : Cal P w K mg base "_law_take" 1 ["pool", "many"] spTake) : FnOk P w K mg base CX0 7 f fd ["script"] (spLaw K) := by
  refine F.ok sc_law (fun vs H Q E h => ?_) (fun cdv A outer s H vs Q E hr h => ?_)
  · obtain ⟨a, ns, rfl, ha, hl, q⟩ := h
    rfl
  · obtain ⟨a, ns, rfl, ha, hl, q⟩ := h
    have hr_law_pool : Room 1 _ := hr.mono (by decide)
    have hr_law_turn : Room 4 _ := hr.mono (by decide)
    have hr_rounds_of : Room 4 _ := hr.mono (by decide)
    have hr_from_rounds : Room 3 _ := hr.mono (by decide)
    have hr_law_turned_rounds : Room 3 _ := hr.mono (by decide)
    have hr_way_back : Room 5 _ := hr.mono (by decide)
    have hr_law_begun : Room 1 _ := hr.mono (by decide)
    have hr_kind_of : Room 5 _ := hr.mono (by decide)
    have hr_law_mixed_up : Room 2 _ := hr.mono (by decide)
    have hr_put_behind : Room 4 _ := hr.mono (by decide)
    have hr_home_of : Room 6 _ := hr.mono (by decide)
    have hr_power_of : Room 4 _ := hr.mono (by decide)
    have hr_law_take : Room 1 _ := hr.mono (by decide)
    have hu := hu_of hr
    have hu2 : _ + 1 + 1 < cLine := Nat.lt_of_le_of_lt (Nat.add_le_add_left (by decide : 2 ≤ 64) _) hr.units
    refine ⟨_, @pss_cons _ _ _ _ _ (@ps_for _ _ _ _ _ _ _ _ PassesOwn.never rfl (@pi_range1 _ _ _ _ _ _ (by rfl) B.range (@pa_cons _ _ _ _ _ (@pe_max2 _ _ _ _ _ _ rfl B.max (@pa_cons _ _ _ _ _ (@pe_int _ _ _ _) (@pa_cons _ _ _ _ _ (@pe_min2 _ _ _ _ _ _ rfl B.min (@pa_cons _ _ _ _ _ (@pe_int _ _ _ _) (@pa_cons _ _ _ _ _ (@pe_lenL _ _ _ _ _ B.len (@pa_cons _ _ _ _ _ (pv 0) (@pa_nil _) (by rfl)) (by rfl) (by rfl)) (@pa_nil _) (by rfl)) (by rfl)) (by rfl) (by rfl) (by rfl)) (@pa_nil _) (by rfl)) (by rfl)) (by rfl) (by rfl) (by rfl)) (@pa_nil _) (by rfl)) (by rfl)) (@pg_name _ _ (1) _ sc_law.nd rfl (Or.inl rfl) (by first | exact .inl rfl | exact .inr rfl | assumption)) (@pss_cons _ _ _ _ _ (@ps_set _ _ (2) _ _ _ _ sc_law.nd rfl (Or.inl rfl) (@pe_cal _ _ _ _ _ _ _ _ _ _ c_law_pool hr_law_pool (@pa_cons _ _ _ _ _ (pv 0) (@pa_cons _ _ _ _ _ (pv 1) (@pa_nil _) (by rfl)) (by rfl)) (by rfl) (by decide) (by rfl) (by rfl)) (by rfl) (by first | exact .inl rfl | exact .inr rfl | assumption)) (@pss_cons _ _ _ _ _ (@ps_set _ _ (3) _ _ _ _ sc_law.nd rfl (Or.inl rfl) (@pe_cal _ _ _ _ _ _ _ _ _ _ c_law_turn hr_law_turn (@pa_cons _ _ _ _ _ (pv 2) (@pa_cons _ _ _ _ _ (@pe_int _ _ _ _) (@pa_nil _) (by rfl)) (by rfl)) (by rfl) (by decide) (by rfl) (by rfl)) (by rfl) (by first | exact .inl rfl | exact .inr rfl | assumption)) (@pss_cons _ _ _ _ _ (@ps_set _ _ (4) _ _ _ _ sc_law.nd rfl (Or.inl rfl) (@pe_cal _ _ _ _ _ _ _ _ _ _ c_rounds_of hr_rounds_of (@pa_cons _ _ _ _ _ (pv 3) (@pa_nil _) (by rfl)) (by rfl) (by decide) (by rfl) (by rfl)) (by rfl) (by first | exact .inl rfl | exact .inr rfl | assumption)) (@pss_cons _ _ _ _ _ (@ps_if _ _ _ _ _ _ _ _ (@pw_or _ _ _ _ _ _ _ (@pt_cmpR _ _ _ _ _ _ _ _ (op_neL 0 hu) (@pe_cal _ _ _ _ _ _ _ _ _ _ c_from_rounds hr_from_rounds (@pa_cons _ _ _ _ _ (pv 4) (@pa_nil _) (by rfl)) (by rfl) (by decide) (by rfl) (by rfl)) (pv 3) (nomark _)) (@pw_or1 _ _ _ _ (@pt_cmpR _ _ _ _ _ _ _ _ (op_neL 0 hu) (@pe_cal _ _ _ _ _ _ _ _ _ _ c_from_rounds hr_from_rounds (@pa_cons _ _ _ _ _ (@pe_cal _ _ _ _ _ _ _ _ _ _ c_law_turned_rounds hr_law_turned_rounds (@pa_cons _ _ _ _ _ (pv 2) (@pa_cons _ _ _ _ _ (pv 4) (@pa_nil _) (by rfl)) (by rfl)) (by rfl) (by decide) (by rfl) (by rfl)) (@pa_nil _) (by rfl)) (by rfl) (by decide) (by rfl) (by rfl)) (pv 3) (nomark _)))).pt (@pss_one _ _ _ (@ps_ret _ _ _ _ (@pe_bl _ _ _ _))) (@pss_nil _)) (@pss_cons _ _ _ _ _ (@ps_if _ _ _ _ _ _ _ _ (@pt_cmpR _ _ _ _ _ _ _ _ (op_neL 1 hu2) (@pe_cal _ _ _ _ _ _ _ _ _ _ c_rounds_of hr_rounds_of (@pa_cons _ _ _ _ _ (@pe_cal _ _ _ _ _ _ _ _ _ _ c_way_back hr_way_back (@pa_cons _ _ _ _ _ (pv 3) (@pa_nil _) (by rfl)) (by rfl) (by decide) (by rfl) (by rfl)) (@pa_nil _) (by rfl)) (by rfl) (by decide) (by rfl) (by rfl)) (pe_sortedRX hu2 B.sorted (@pa_cons _ _ _ _ _ (@pe_comp _ _ _ _ _ _ _ _ _ _ _ (["one"]) (1) ([]) rfl .of (@pi_list _ _ _ _ (pv 4)) (fun _ _ _ _ _ => @pg_name _ _ (0) _ nd_one_law rfl (Or.inl rfl) (by first | exact .inl rfl | exact .inr rfl | assumption)) (fun _ _ _ _ _ => (@pifs_nil _)) (fun _ _ _ _ _ => (@pe_cal _ _ _ _ _ _ _ _ _ _ c_law_begun hr_law_begun (@pa_cons _ _ _ _ _ (pe_revK K (pv 0) (@po_some _ _ _ (@pe_un _ _ _ _ _ _ un_neg (@pe_int _ _ _ _)))) (@pa_nil _) (by rfl)) (by rfl) (by decide) (by rfl) (by rfl))) (by intro _; rfl)) (@pa_nil _) (by rfl))) (nomark _)) (@pss_one _ _ _ (@ps_ret _ _ _ _ (@pe_bl _ _ _ _))) (@pss_nil _)) (@pss_cons _ _ _ _ _ (@ps_set _ _ (5) _ _ _ _ sc_law.nd rfl (Or.inl rfl) (@pe_lst _ _ _ _ (@pa_nil _)) (by rfl) (by first | exact .inl rfl | exact .inr rfl | assumption)) (@pss_cons _ _ _ _ _ (@ps_for _ _ _ _ _ _ _ _ PassesOwn.never rfl (@pi_list _ _ _ _ (pv 4)) (@pg_name _ _ (6) _ sc_law.nd rfl (Or.inl rfl) (by first | exact .inl rfl | exact .inr rfl | assumption)) (@pss_one _ _ _ (@ps_set _ _ (5) _ _ _ _ sc_law.nd rfl (Or.inl rfl) (@pe_op _ _ _ _ _ _ _ _ op_cat (pv 5) (pv 6)) (by rfl) (by first | exact .inl rfl | exact .inr rfl | assumption))) (by intro _; rfl)) (@pss_cons _ _ _ _ _ (@ps_if _ _ _ _ _ _ _ _ (@pw_or _ _ _ _ _ _ _ (@pt_cmpR _ _ _ _ _ _ _ _ (op_neL 0 hu) (pe_sortedNX B.sorted (@pa_cons _ _ _ _ _ (pv 5) (@pa_nil _) (by rfl))) (@pe_listRng _ _ _ _ _ _ _ rfl B.list B.range (@pa_cons _ _ _ _ _ (@pe_lenL _ _ _ _ _ B.len (@pa_cons _ _ _ _ _ (pv 3) (@pa_nil _) (by rfl)) (by rfl) (by rfl)) (@pa_nil _) (by rfl)) (by rfl) (by rfl) (by rfl) (by rfl)) (nomark _)) (@pw_or1 _ _ _ _ (@pt_cmpR _ _ _ _ _ _ _ _ (op_neL 0 hu) (@pe_cal _ _ _ _ _ _ _ _ _ _ c_kind_of hr_kind_of (@pa_cons _ _ _ _ _ (pv 3) (@pa_nil _) (by rfl)) (by rfl) (by decide) (by rfl) (by rfl)) (@pe_rev _ _ _ _ _ _ _ (pe_sortedNX B.sorted (@pa_cons _ _ _ _ _ (@pe_comp _ _ _ _ _ _ _ _ _ _ _ (["one"]) (1) ([]) rfl .of (@pi_list _ _ _ _ (pv 4)) (fun _ _ _ _ _ => @pg_name _ _ (0) _ nd_one_law rfl (Or.inl rfl) (by first | exact .inl rfl | exact .inr rfl | assumption)) (fun _ _ _ _ _ => (@pifs_nil _)) (fun _ _ _ _ _ => (@pe_lenLK _ _ _ _ _ K (by exact B.len) (@pa_cons _ _ _ _ _ (pv 0) (@pa_nil _) (by rfl)) (by rfl) (by rfl) (by rfl))) (by intro _; rfl)) (@pa_nil _) (by rfl))) (@po_some _ _ _ (@pe_un _ _ _ _ _ _ un_neg (@pe_int _ _ _ _)))) (nomark _)))).pt (@pss_one _ _ _ (@ps_ret _ _ _ _ (@pe_bl _ _ _ _))) (@pss_nil _)) (@pss_cons _ _ _ _ _ (@ps_set _ _ (7) _ _ _ _ sc_law.nd rfl (Or.inr rfl) (@pe_cal _ _ _ _ _ _ _ _ _ _ c_law_mixed_up hr_law_mixed_up (@pa_cons _ _ _ _ _ (pv 2) (@pa_cons _ _ _ _ _ (pv 3) (@pa_nil _) (by rfl)) (by rfl)) (by rfl) (by decide) (by rfl) (by rfl)) (by rfl) (by first | exact .inl rfl | exact .inr rfl | assumption)) (@pss_cons _ _ _ _ _ (@ps_set _ _ (8) _ _ _ _ sc_law.nd rfl (Or.inl rfl) (@pe_cal _ _ _ _ _ _ _ _ _ _ c_put_behind hr_put_behind (@pa_cons _ _ _ _ _ (@pe_cal _ _ _ _ _ _ _ _ _ _ c_put_behind hr_put_behind (@pa_cons _ _ _ _ _ (pv 7) (@pa_cons _ _ _ _ _ (pv 3) (@pa_nil _) (by rfl)) (by rfl)) (by rfl) (by decide) (by rfl) (by rfl)) (@pa_cons _ _ _ _ _ (@pe_cal _ _ _ _ _ _ _ _ _ _ c_way_back hr_way_back (@pa_cons _ _ _ _ _ (pv 7) (@pa_nil _) (by rfl)) (by rfl) (by decide) (by rfl) (by rfl)) (@pa_nil _) (by rfl)) (by rfl)) (by rfl) (by decide) (by rfl) (by rfl)) (by rfl) (by first | exact .inl rfl | exact .inr rfl | assumption)) (@pss_cons _ _ _ _ _ (@ps_if _ _ _ _ _ _ _ _ (@pw_or _ _ _ _ _ _ _ (@pt_cmpR _ _ _ _ _ _ _ _ (op_neL 0 hu) (@pe_cal _ _ _ _ _ _ _ _ _ _ c_kind_of hr_kind_of (@pa_cons _ _ _ _ _ (pv 8) (@pa_nil _) (by rfl)) (by rfl) (by decide) (by rfl) (by rfl)) (@pe_cal _ _ _ _ _ _ _ _ _ _ c_kind_of hr_kind_of (@pa_cons _ _ _ _ _ (pv 3) (@pa_nil _) (by rfl)) (by rfl) (by decide) (by rfl) (by rfl)) (nomark _)) (@pw_or _ _ _ _ _ _ _ (@pt_cmpR _ _ _ _ _ _ _ _ op_ne (@pe_cal _ _ _ _ _ _ _ _ _ _ c_home_of hr_home_of (@pa_cons _ _ _ _ _ (pv 8) (@pa_nil _) (by rfl)) (by rfl) (by decide) (by rfl) (by rfl)) (@pe_cal _ _ _ _ _ _ _ _ _ _ c_home_of hr_home_of (@pa_cons _ _ _ _ _ (pv 3) (@pa_nil _) (by rfl)) (by rfl) (by decide) (by rfl) (by rfl)) (nomark _)) (@pw_or1 _ _ _ _ (@pt_cmpR _ _ _ _ _ _ _ _ op_ne (@pe_cal _ _ _ _ _ _ _ _ _ _ c_home_of hr_home_of (@pa_cons _ _ _ _ _ (@pe_cal _ _ _ _ _ _ _ _ _ _ c_way_back hr_way_back (@pa_cons _ _ _ _ _ (pv 3) (@pa_nil _) (by rfl)) (by rfl) (by decide) (by rfl) (by rfl)) (@pa_nil _) (by rfl)) (by rfl) (by decide) (by rfl) (by rfl)) (@pe_cal _ _ _ _ _ _ _ _ _ _ c_home_of hr_home_of (@pa_cons _ _ _ _ _ (pv 3) (@pa_nil _) (by rfl)) (by rfl) (by decide) (by rfl) (by rfl)) (nomark _))))).pt (@pss_one _ _ _ (@ps_ret _ _ _ _ (@pe_bl _ _ _ _))) (@pss_nil _)) (@pss_cons _ _ _ _ _ (@ps_if _ _ _ _ _ _ _ _ (@pt_cmpR _ _ _ _ _ _ _ _ (op_neL 1 hu2) (@pe_cal _ _ _ _ _ _ _ _ _ _ c_rounds_of hr_rounds_of (@pa_cons _ _ _ _ _ (pv 8) (@pa_nil _) (by rfl)) (by rfl) (by decide) (by rfl) (by rfl)) (pe_sortedRX hu2 B.sorted (@pa_cons _ _ _ _ _ (@pe_comp _ _ _ _ _ _ _ _ _ _ _ (["one", "s"]) (1) ([7]) rfl .of (@pi_list _ _ _ _ (pv 4)) (fun _ _ _ _ _ => @pg_name _ _ (0) _ nd_one_s_law rfl (Or.inl rfl) (by first | exact .inl rfl | exact .inr rfl | assumption)) (fun _ _ _ _ _ => (@pifs_nil _)) (fun _ _ _ _ _ => (@pe_cal _ _ _ _ _ _ _ _ _ _ c_law_begun hr_law_begun (@pa_cons _ _ _ _ _ (@pe_comp _ _ _ _ _ _ _ _ _ _ _ (["thing", "s"]) (1) ([1]) rfl .of (pi_listK K (pv 0)) (fun _ _ _ _ _ => @pg_name _ _ (0) _ nd_thing_s_law rfl (Or.inl rfl) (by first | exact .inl rfl | exact .inr rfl | assumption)) (fun _ _ _ _ _ => (@pifs_nil _)) (fun _ _ _ _ _ => (@pe_ix _ _ _ _ _ _ (rIxL K) ix_list (pv 1) (pv 0) (fun _ _ => rfl))) (by intro _; rfl)) (@pa_nil _) (by rfl)) (by rfl) (by decide) (by rfl) (by rfl))) (by intro _; rfl)) (@pa_nil _) (by rfl))) (nomark _)) (@pss_one _ _ _ (@ps_ret _ _ _ _ (@pe_bl _ _ _ _))) (@pss_nil _)) (@pss_cons _ _ _ _ _ (@ps_set _ _ (6) _ _ _ _ sc_law.nd rfl (Or.inl rfl) (@pe_cal _ _ _ _ _ _ _ _ _ _ c_power_of hr_power_of (@pa_cons _ _ _ _ _ (pv 3) (@pa_cons _ _ _ _ _ (@pe_cal _ _ _ _ _ _ _ _ _ _ c_law_take hr_law_take (@pa_cons _ _ _ _ _ (pv 2) (@pa_cons _ _ _ _ _ (@pe_int _ _ _ _) (@pa_nil _) (by rfl)) (by rfl)) (by rfl) (by decide) (by rfl) (by rfl)) (@pa_nil _) (by rfl)) (by rfl)) (by rfl) (by decide) (by rfl) (by rfl)) (by rfl) (by first | exact .inl rfl | exact .inr rfl | assumption)) (@pss_cons _ _ _ _ _ (@ps_set _ _ (9) _ _ _ _ sc_law.nd rfl (Or.inl rfl) (@pe_cal _ _ _ _ _ _ _ _ _ _ c_power_of hr_power_of (@pa_cons _ _ _ _ _ (pv 3) (@pa_cons _ _ _ _ _ (@pe_cal _ _ _ _ _ _ _ _ _ _ c_law_take hr_law_take (@pa_cons _ _ _ _ _ (pv 2) (@pa_cons _ _ _ _ _ (@pe_int _ _ _ _) (@pa_nil _) (by rfl)) (by rfl)) (by rfl) (by decide) (by rfl) (by rfl)) (@pa_nil _) (by rfl)) (by rfl)) (by rfl) (by decide) (by rfl) (by rfl)) (by rfl) (by first | exact .inl rfl | exact .inr rfl | assumption)) (@pss_one _ _ _ (@ps_if _ _ _ _ _ _ _ _ (@pw_or _ _ _ _ _ _ _ (@pt_cmpR _ _ _ _ _ _ _ _ op_ne (@pe_op _ _ _ _ _ _ _ _ op_mod (@pe_cal _ _ _ _ _ _ _ _ _ _ c_home_of hr_home_of (@pa_cons _ _ _ _ _ (pv 3) (@pa_nil _) (by rfl)) (by rfl) (by decide) (by rfl) (by rfl)) (@pe_cal _ _ _ _ _ _ _ _ _ _ c_home_of hr_home_of (@pa_cons _ _ _ _ _ (@pe_cal _ _ _ _ _ _ _ _ _ _ c_put_behind hr_put_behind (@pa_cons _ _ _ _ _ (pv 6) (@pa_cons _ _ _ _ _ (pv 9) (@pa_nil _) (by rfl)) (by rfl)) (by rfl) (by decide) (by rfl) (by rfl)) (@pa_nil _) (by rfl)) (by rfl) (by decide) (by rfl) (by rfl))) (@pe_int _ _ _ _) (nomark _)) (@pw_or1 _ _ _ _ (@pt_cmpR _ _ _ _ _ _ _ _ op_ne (@pe_op _ _ _ _ _ _ _ _ op_mod (@pe_cal _ _ _ _ _ _ _ _ _ _ c_home_of hr_home_of (@pa_cons _ _ _ _ _ (pv 3) (@pa_nil _) (by rfl)) (by rfl) (by decide) (by rfl) (by rfl)) (@pe_cal _ _ _ _ _ _ _ _ _ _ c_home_of hr_home_of (@pa_cons _ _ _ _ _ (pv 6) (@pa_nil _) (by rfl)) (by rfl) (by decide) (by rfl) (by rfl))) (@pe_int _ _ _ _) (nomark _)))).pt (@pss_one _ _ _ (@ps_ret _ _ _ _ (@pe_bl _ _ _ _))) (@pss_nil _))))))))))))))))) (by intro _; rfl)) (@pss_one _ _ _ (@ps_ret _ _ _ _ (@pe_bl _ _ _ _))), ?_⟩
    refine ⟨_, rfl, a, _, rfl, .inl ha, 10, _, rfl, 1, _, rfl, _, rfl, ?_⟩
    obtain ⟨mx, hmx, hm1, hm2⟩ := maxmin' (n := 10) (c := ((ns.map V.int).length : Int)) (by decide) (by omega)
    rw [hmx]
    refine ⟨by omega, by omega, for_range (lo := 0) (n := mx.toNat) (fun i σ H2 => ∃ v1 v2 v3 v4 v5 v6 v7 v8 v9 : Option V, σ = [some (.ref a), v1, v2, v3, v4, v5, v6, v7, v8, v9] ∧ Same H H2)
      ⟨none, none, none, none, none, none, none, none, none, rfl, Same.refl H⟩ ?_ (fun σ H2 ⟨_, _, _, _, _, _, _, _, _, _, _⟩ => q H2)⟩
    rintro i σ H2 hi ⟨v1, v2, v3, v4, v5, v6, v7, v8, v9, rfl, s02⟩
    refine ⟨_, rfl, _, rfl, a, ns, _, rfl, s02.seq ha, by omega, by omega, fun g H3 hg s23 P3 => ?_⟩
    have hg0 : H g = none := s02.free hg
    refine ⟨_, rfl, g, 4300, 40, rfl, P3, by decide, by decide, by decide, fun b p H4 hb tp lp h4b P4 kb34 => ?_⟩
    have s04 : Same H H4 := (s02.trans s23).kb kb34 hg0
    have lp' : p.length ≤ 40 := by omega
    have nbg : b ≠ g := pool_ne P3 hb
    refine ⟨_, rfl, b, p, rfl, ⟨h4b, tp, lp'⟩, fun R as rs H5 hR s45 h5R rows up fa nda nra => ?_⟩
    have td := told_up tp up
    have h5b := s45 _ _ h4b
    have P5 := pool_same P4 s45
    refine ⟨_, rfl, R, as, rs, rfl, h5R, rows, td.ne, td.isT.1, by rw [td.isT.2]; exact lp', fun o t H6 ho s56 h6o tl al => ?_⟩
    have et := td.leads tp tl al
    subst et
    have h6b := s56 _ _ h5b
    refine ⟨_, rfl, o, b, _, _, _, rfl, rfl, SqL.of h6o, SqL.of h6b, leq_ints _ _ _ _ _, _, rfl, ?_⟩
    rw [decide_eq_true rfl]
    refine iteF ?_
    have gas : g ∉ as := fun z => by
      have := fa g z
      obtain ⟨_, _, _, e, _⟩ := P4
      rw [e] at this; cases this
    have nRg : R ≠ g := pool_ne P4 hR
    have rows6 : RowsH H6 as rs := rows_keep rows fun c _ o e => s56 c o e
    have h6R := s56 _ _ h5R
    refine ⟨_, rfl, _, rfl, g, R, t, as, rs, _, rfl, pool_same P5 s56, by decide, nRg, tp, lp', h6R, rows6, td, gas, fun l cs qs H7 hl7 h7l rowsC tq P7 kb67 => ?_⟩
    refine ⟨l, cs, qs, rfl, h7l, rowsC, tq.ne, tq.isT.1, by rw [tq.isT.2]; exact lp', fun o2 t2 H8 ho2 s78 h8o tl2 al2 => ?_⟩
    have et2 := tq.leads tp tl2 al2
    subst et2
    have h8b := s78 _ _ (kb67 _ _ h6b nbg)
    refine ⟨_, rfl, o2, b, _, _, _, rfl, rfl, SqL.of h8o, SqL.of h8b, leq_ints _ _ _ _ _, _, rfl, ?_⟩
    rw [decide_eq_true rfl]
    refine iteF ?_
    have s08 : Same H H8 := (((s04.trans s45).trans s56).kb kb67 hg0).trans s78
    have P8 := pool_same P7 s78
    have rows8 : RowsH H8 as rs := rows_keep rows6 fun c hc o e => s78 c o (kb67 c o e fun z => gas (z ▸ hc))
    have h8R := s78 _ _ (kb67 _ _ h6R nRg)
    clear h7l rowsC tq al2 tl2 h8o ho2 hl7 kb67 s78 P7 al tl h6o ho rows6 h6R h6b P5 h5b h5R rows s45 s56 P4 h4b kb34 P3
    refine ⟨_, rfl, b, t2, rfl, ⟨h8b, tp, lp'⟩, fun wb tb H9 hwb s89 pwb h9w => ?_⟩
    have ltb : tb.length = t2.length := pwb.1
    have ttb := pow_isT tp pwb
    refine ⟨wb, tb, rfl, ⟨h9w, ttb, by omega⟩, fun R2 as2 rs2 H10 hR2 s90 h10R2 rows2 up2 fa2 nda2 nra2 => ?_⟩
    have s810 := s89.trans s90
    have h10R := s810 _ _ h8R
    have rows10 : RowsH H10 as rs := rows_keep rows8 fun c _ o e => s810 c o e
    have lrs := told_len td
    have las : as.length ≤ 40 := by rw [rows10.1]; omega
    refine ⟨_, rfl, R, rfl, ⟨_, SqL.of h10R⟩, comp_list (K := K) (a := R) (xs := as.map V.ref) (fun i ys σ H11 => ∃ (v : Option V) (cs : List Addr) (qs : List (List Int)), σ = [v] ∧ ys = cs.map V.ref ∧ RowsH H11 cs qs ∧ cs.length = i ∧ (∀ r ∈ qs, ∃ x L, Mth.In tb x ∧ Per tb x L ∧ r = ringL tb x L ∧ ∀ y ∈ r, x ≤ y) ∧ qs.flatten.Perm (rs.take i).flatten ∧ Same H10 H11)
      ⟨none, [], [], rfl, rfl, ⟨rfl, fun j b r h => by cases h⟩, rfl, (fun r hr => by cases hr), List.Perm.refl _, Same.refl H10⟩ (fun i ys σ H11 _ ⟨_, _, _, _, _, _, _, _, _, s⟩ => SqL.of (s _ _ h10R)) ?_ ?_⟩
    · rintro j x ys σ H11 hj ⟨v, cs, qs, rfl, rfl, rowsC, lcs, cn, fl, s11⟩
      obtain ⟨e, he, rfl⟩ : ∃ a, as[j]? = some a ∧ x = V.ref a := by
        rw [List.getElem?_map] at hj
        cases e : as[j]? with
        | none => rw [e] at hj; cases hj
        | some a => rw [e] at hj; exact ⟨a, rfl, (Option.some.inj hj).symm⟩
      have jl : j < rs.length := by rw [← rows10.1]; exact (List.getElem?_eq_some_iff.mp he).1
      obtain ⟨r, hr'⟩ : ∃ r, rs[j]? = some r := ⟨_, List.getElem?_eq_getElem jl⟩
      obtain ⟨x, L, hx, pr, er, _, _⟩ := up.ring r (List.mem_of_getElem? hr')
      have h11e := s11 _ _ (rows10.2 j e r he hr')
      refine ⟨_, rfl, _, rfl, _, rfl, rfl, e, _, rfl, SqL.of h11e, fun rv hrv => ?_⟩
      have erv : (r.map V.int).reverse = (ringL tb (it t2 (L - 1) x) L).map V.int := by rw [← List.map_reverse, er, rev_ring tp pwb hx pr]
      rw [erv]
      have s12 : Same H11 (upd H11 rv (.lst ((ringL tb (it t2 (L - 1) x) L).map V.int))) := Same.upd_new hrv
      have h12 : (upd H11 rv (.lst ((ringL tb (it t2 (L - 1) x) L).map V.int))) rv = some (.lst ((ringL tb (it t2 (L - 1) x) L).map V.int)) := upd_same
      generalize (upd H11 rv (.lst ((ringL tb (it t2 (L - 1) x) L).map V.int))) = H12 at s12 h12 ⊢
      have hxe := it_in tp hx (L - 1)
      have hxe' : Mth.In tb (it t2 (L - 1) x) := ⟨hxe.1, by rw [ltb]; exact hxe.2⟩
      have prb : Per tb (it t2 (L - 1) x) L := per_back tp pwb hxe (pr.shift tp hx (L - 1))
      refine ⟨rv, tb, _, L, rfl, h12, ttb, hxe', prb, by omega, fun u k H13 hu s13 hk lo h13 => ?_⟩
      refine ⟨small1000 (by rw [List.length_map]; omega), some (.ref e), cs ++ [u], qs ++ [ringL tb (it tb k (it t2 (L - 1) x)) L], rfl, by rw [List.map_append]; rfl, rows_snoc (rows_keep rowsC fun c _ o h => s13 c o (s12 c o h)) h13, by rw [List.length_append, lcs]; rfl, fun r2 hr2 => ?_, ?_, (s11.trans s12).trans s13⟩
      · rcases List.mem_append.mp hr2 with z | z
        · exact cn r2 z
        · rw [List.mem_singleton.mp z]
          refine ⟨_, L, it_in ttb hxe' k, prb.shift ttb hxe' k, rfl, fun y hy => lo y ?_⟩
          rw [← ringL_rot prb (show k ≤ L by omega)] at hy
          exact (rot_perm _ _).mem_iff.mp hy
      · rw [take_succ_of hr', List.flatten_append, List.flatten_append, List.flatten_singleton, List.flatten_singleton]
        refine List.Perm.append fl ?_
        rw [← ringL_rot prb (show k ≤ L by omega)]
        refine (rot_perm _ _).trans ?_
        rw [← rev_ring tp pwb hx pr, er]
        exact List.reverse_perm _
    · rintro ys σ H11 ⟨v, cs, qs, rfl, rfl, rowsC, lcs, cn, fl, s11⟩ D hD
      rw [List.length_map, rows10.1, List.take_length] at fl
      have canB : Canon tb qs := ⟨cn, by rw [ltb]; exact fl.trans td.flat⟩
      have s12 : Same H11 (upd H11 D (.lst (cs.map V.ref))) := Same.upd_new hD
      have h12 : (upd H11 D (.lst (cs.map V.ref))) D = some (.lst (cs.map V.ref)) := upd_same
      generalize (upd H11 D (.lst (cs.map V.ref))) = H12 at s12 h12 ⊢
      refine ⟨D, cs, qs, rfl, SqL.of h12, rows_keep rowsC fun c _ o h => s12 c o h, fun cs' ts u pb pt rowsT st hu => ?_⟩
      have ets := canon_sorted ttb up2 canB pt st
      subst ets
      have s13 : Same H12 (upd H12 u (.lst (cs'.map V.ref))) := Same.upd_new hu
      have h13 : (upd H12 u (.lst (cs'.map V.ref))) u = some (.lst (cs'.map V.ref)) := upd_same
      generalize (upd H12 u (.lst (cs'.map V.ref))) = H13 at s13 h13 ⊢
      have s1013 := (s11.trans s12).trans s13
      refine ⟨R2, u, _, _, _, rfl, rfl, SqL.of (s1013 _ _ h10R2), SqL.of h13, leq_rowsH (rows_keep rows2 fun c _ o h => s1013 c o h) (rows_keep rowsT fun c _ o h => s13 c o h), _, rfl, ?_⟩
      rw [decide_eq_true rfl]
      refine iteF ?_
      have s813 := s810.trans s1013
      clear rowsC cn fl canB h12 s12 s13 h13 rowsT st pt pb s11 s1013 rows2 up2 h10R2 fa2 nda2 nra2 h9w s89 s90 rows10 h10R s810
      have h13R := s813 _ _ h8R
      have rows13 : RowsH H13 as rs := rows_keep rows8 fun c _ o e => s813 c o e
      have h13b := s813 _ _ h8b
      have P13 := pool_same P8 s813
      have s013 := s08.trans s813
      clear s813 rows8 h8R h8b P8 s08
      refine ⟨Nat.zero_le _, fun T0 hT0 => ?_⟩
      have s14 : Same H13 (upd H13 T0 (.lst [])) := Same.upd_new hT0
      have h14 : (upd H13 T0 (.lst [])) T0 = some (.lst (([] : List Int).map V.int)) := upd_same
      generalize (upd H13 T0 (.lst [])) = H14 at s14 h14 ⊢
      have h14R := s14 _ _ h13R
      refine ⟨_, rfl, R, rfl, ⟨_, SqL.of h14R⟩, for_list (K := K) (a := R) (xs := as.map V.ref) (fun j σ H15 => ∃ (T : Addr) (v6 v7 v8 v9 : Option V), σ = [some (.ref a), some (.int ((0 : Int) + (i : Int))), some (.ref g), some (.ref b), some (.ref R), some (.ref T), v6, v7, v8, v9] ∧ H15 T = some (.lst ((rs.take j).flatten.map V.int)) ∧ Same H14 H15)
        ⟨T0, v6, v7, v8, v9, rfl, h14, Same.refl H14⟩ (fun j σ H15 _ ⟨_, _, _, _, _, _, _, s⟩ => SqL.of (s _ _ h14R)) ?_ ?_⟩
      · rintro j x σ H15 hj ⟨T, w6, w7, w8, w9, rfl, h15, s15⟩
        obtain ⟨e, he, rfl⟩ : ∃ a, as[j]? = some a ∧ x = V.ref a := by
          rw [List.getElem?_map] at hj
          cases e : as[j]? with
          | none => rw [e] at hj; cases hj
          | some a => rw [e] at hj; exact ⟨a, rfl, (Option.some.inj hj).symm⟩
        have jl : j < rs.length := by rw [← rows13.1]; exact (List.getElem?_eq_some_iff.mp he).1
        obtain ⟨r, hr'⟩ : ∃ r, rs[j]? = some r := ⟨_, List.getElem?_eq_getElem jl⟩
        have h15e := s15 _ _ (s14 _ _ (rows13.2 j e r he hr'))
        have et := take_succ_of hr'
        have lt : ((rs.take (j + 1)).flatten).length ≤ t2.length := by
          rw [← td.isT.2]
          have : rs.flatten = (rs.take (j + 1)).flatten ++ (rs.drop (j + 1)).flatten := by rw [← List.flatten_append, List.take_append_drop]
          rw [this, List.length_append]; omega
        rw [et, List.flatten_append, List.flatten_singleton, List.length_append] at lt
        refine ⟨_, rfl, _, rfl, T, e, _, _, rfl, rfl, h15, h15e, Nat.le_of_lt (small1000 (by rw [List.length_map, List.length_map]; omega)), fun T2 hT2 => ?_⟩
        rw [← List.map_append]
        refine ⟨T2, _, _, _, _, rfl, ?_, s15.trans (Same.upd_new hT2)⟩
        rw [upd_same, et, List.flatten_append, List.flatten_singleton]
      · rintro σ H15 ⟨T, w6, w7, w8, w9, rfl, h15, s15⟩
        rw [List.length_map, rows13.1, List.take_length] at h15
        have s1315 := s14.trans s15
        have h15b := s1315 _ _ h13b
        have h15R := s1315 _ _ h13R
        have rows15 : RowsH H15 as rs := rows_keep rows13 fun c _ o e => s1315 c o e
        have P15 := pool_same P13 s1315
        have s015 := s013.trans s1315
        clear rows13 h13R h13b P13 s013 s14 h14 h14R s15 s1315
        refine ⟨_, rfl, T, rs.flatten, rfl, SqL.of h15, fun ms u pm upm hu => ?_⟩
        have ems : ms = upTo 0 t2.length := up_eq (pm.trans td.flat) upm (upTo_up _) |>.trans rfl
        subst ems
        have s16 : Same H15 (upd H15 u (.lst ((upTo 0 t2.length).map V.int))) := Same.upd_new hu
        have h16 : (upd H15 u (.lst ((upTo 0 t2.length).map V.int))) u = some (.lst ((upTo 0 t2.length).map V.int)) := upd_same
        generalize (upd H15 u (.lst ((upTo 0 t2.length).map V.int))) = H16 at s16 h16 ⊢
        refine ⟨_, rfl, b, _, rfl, .inl (SqL.of (s16 _ _ h15b)), ?_⟩
        rw [List.length_map]
        refine ⟨(t2.length : Int), rfl, fun rg hrg => ?_⟩
        have s17 : Same H16 (upd H16 rg (.rng 0 (t2.length : Int))) := Same.upd_new hrg
        have h17 : (upd H16 rg (.rng 0 (t2.length : Int))) rg = some (.rng 0 (t2.length : Int)) := upd_same
        generalize (upd H16 rg (.rng 0 (t2.length : Int))) = H17 at s17 h17 ⊢
        refine ⟨rg, 0, _, rfl, h17, ⟨by decide, by decide, by omega, by omega⟩, by omega, fun lr hlr => ?_⟩
        rw [show ((t2.length : Int) - 0).toNat = t2.length by omega]
        have s18 : Same H17 (upd H17 lr (.lst ((upTo 0 t2.length).map V.int))) := Same.upd_new hlr
        have h18 : (upd H17 lr (.lst ((upTo 0 t2.length).map V.int))) lr = some (.lst ((upTo 0 t2.length).map V.int)) := upd_same
        generalize (upd H17 lr (.lst ((upTo 0 t2.length).map V.int))) = H18 at s18 h18 ⊢
        refine ⟨u, lr, _, _, _, rfl, rfl, SqL.of (s18 _ _ (s17 _ _ h16)), SqL.of h18, leq_ints _ _ _ _ _, _, rfl, ?_⟩
        rw [decide_eq_true rfl]
        refine iteF ?_
        have s1518 := (s16.trans s17).trans s18
        clear h16 s16 h17 s17 h18 s18 upm pm hu hlr hrg
        refine ⟨_, rfl, b, t2, rfl, ⟨s1518 _ _ h15b, tp, lp'⟩, fun ka ks H19 hka s1819 pmk falk bdk lk h19 => ?_⟩
        have s1519 := s1518.trans s1819
        have h19R := s1519 _ _ h15R
        have rows19 : RowsH H19 as rs := rows_keep rows15 fun c _ o e => s1519 c o e
        refine ⟨_, rfl, R, rfl, ⟨_, SqL.of h19R⟩, comp_list (K := K) (a := R) (xs := as.map V.ref) (fun j ys σ H20 => ∃ v : Option V, σ = [v] ∧ H20 = H19 ∧ ys = ((rs.take j).map fun r => (r.length : Int)).map V.int)
          ⟨none, rfl, rfl, rfl⟩ (fun j ys σ H20 _ ⟨_, _, e, _⟩ => by rw [e]; exact SqL.of h19R) ?_ ?_⟩
        · rintro j x ys σ H20 hj ⟨v, rfl, rfl, rfl⟩
          obtain ⟨e, he, rfl⟩ : ∃ a, as[j]? = some a ∧ x = V.ref a := by
            rw [List.getElem?_map] at hj
            cases e : as[j]? with
            | none => rw [e] at hj; cases hj
            | some a => rw [e] at hj; exact ⟨a, rfl, (Option.some.inj hj).symm⟩
          have jl : j < rs.length := by rw [← rows19.1]; exact (List.getElem?_eq_some_iff.mp he).1
          obtain ⟨r, hr'⟩ : ∃ r, rs[j]? = some r := ⟨_, List.getElem?_eq_getElem jl⟩
          refine ⟨_, rfl, e, _, rfl, .inl (SqL.of (rows19.2 j e r he hr')), small1000 (by rw [List.length_map, List.length_map, List.length_take]; omega), _, rfl, rfl, ?_⟩
          rw [take_succ_of hr', List.map_append, List.map_append, List.length_map]
          rfl
        · rintro ys σ H20 ⟨v, rfl, rfl, rfl⟩ D2 hD2
          have ek : rs.map (fun r => (r.length : Int)) = kindL t2 := by unfold kindL; rw [← up.eq]
          rw [List.length_map, rows19.1, List.take_length, ek]
          have s21 : Same H20 (upd H20 D2 (.lst ((kindL t2).map V.int))) := Same.upd_new hD2
          have h21 : (upd H20 D2 (.lst ((kindL t2).map V.int))) D2 = some (.lst ((kindL t2).map V.int)) := upd_same
          generalize (upd H20 D2 (.lst ((kindL t2).map V.int))) = H21 at s21 h21 ⊢
          refine ⟨D2, _, rfl, SqL.of h21, fun ms u2 pm2 up2 hu2 => ?_⟩
          have s22 : Same H21 (upd H21 u2 (.lst (ms.map V.int))) := Same.upd_new hu2
          have h22 : (upd H21 u2 (.lst (ms.map V.int))) u2 = some (.lst (ms.map V.int)) := upd_same
          generalize (upd H21 u2 (.lst (ms.map V.int))) = H22 at s22 h22 ⊢
          refine ⟨_, rfl, _, rfl, rfl, u2, _, rfl, SqL.of h22, fun u3 hu3 => ?_⟩
          have s23 : Same H22 (upd H22 u3 (.lst (ms.map V.int).reverse)) := Same.upd_new hu3
          have h23 : (upd H22 u3 (.lst (ms.map V.int).reverse)) u3 = some (.lst (ms.reverse.map V.int)) := by rw [upd_same, List.map_reverse]
          generalize (upd H22 u3 (.lst (ms.map V.int).reverse)) = H23 at s23 h23 ⊢
          have ekk : ks = ms.reverse := sorted_same (pmk.trans (pm2.symm.trans (List.reverse_perm ms).symm)) falk (reverse_falling up2)
          rw [← ekk] at h23
          have s2023 := (s21.trans s22).trans s23
          refine ⟨ka, u3, _, _, _, rfl, rfl, SqL.of (s2023 _ _ h19), SqL.of h23, leq_ints _ _ _ _ _, _, rfl, ?_⟩
          rw [decide_eq_true rfl]
          refine iteF ?_
          have s1523 := s1519.trans s2023
          have h23b := s1523 _ _ h15b
          have h23R := s1523 _ _ h15R
          have rows23 : RowsH H23 as rs := rows_keep rows15 fun c _ o e => s1523 c o e
          have P23 := pool_same P15 s1523
          have s023 := s015.trans s1523
          clear rows15 h15R h15b P15 s015 s1518 s1519 s1819 h19 rows19 h19R s21 h21 s22 h22 h23 s2023 s1523 ekk ek pm2 up2 hu2 pmk falk bdk lk h15
          refine ⟨_, rfl, _, rfl, g, b, _, t2.map V.int, rfl, P23, by rw [List.length_map]; omega, SqL.of h23b, by rw [List.length_map]; omega, fun sa ys H24 hsa perm h24 P24 kb24 => ?_⟩
          obtain ⟨s', rfl, ps⟩ := perm_ints perm
          have nsg : sa ≠ g := pool_ne P23 hsa
          have ts := isT_of_perm (ps.trans tp.perm)
          have ls : s'.length = t2.length := ts.2
          have ts := ts.1
          have s024 : Same H H24 := s023.kb kb24 hg0
          have h24b := kb24 _ _ h23b nbg
          have h24R := kb24 _ _ h23R nRg
          have rows24 : RowsH H24 as rs := rows_keep rows23 fun c hc o e => kb24 c o e fun z => gas (z ▸ hc)
          clear rows23 h23R h23b P23 s023 kb24
          refine ⟨_, rfl, _, rfl, sa, b, s', t2, rfl, ⟨h24, ts, by omega⟩, ⟨h24b, tp, lp'⟩, ls, fun c1 H25 hc1 s25 h25 => ?_⟩
          refine ⟨_, rfl, sa, s', rfl, ⟨s25 _ _ h24, ts, by omega⟩, fun w2 b2 H26 hw2 s26 pb2 h26 => ?_⟩
          have tc := isT_comp ts tp ls
          have lc : (comp s' t2).length = t2.length := by unfold comp; rw [List.length_map]
          have tb2 := pow_isT ts pb2
          refine ⟨c1, w2, comp s' t2, b2, rfl, ⟨s26 _ _ h25, tc, by omega⟩, ⟨h26, tb2, by rw [pb2.1]; omega⟩, by rw [lc, pb2.1, ls], fun qa H27 hqa s27 h27 => ?_⟩
          have tq := isT_conj tp ts ls pb2
          have lq : (comp (comp s' t2) b2).length = t2.length := by unfold comp; rw [List.length_map, pb2.1, ls]
          have kq := kind_perm (cnt_conj tp ts ls pb2)
          have s2427 := (s25.trans s26).trans s27
          have h27b := s2427 _ _ h24b
          have h27R := s2427 _ _ h24R
          have h27s := s2427 _ _ h24
          have rows27 : RowsH H27 as rs := rows_keep rows24 fun c _ o e => s2427 c o e
          have P27 := pool_same P24 s2427
          have s027 := s024.trans s2427
          clear rows24 h24R h24b P24 s024 s25 s26 s27 h25 h26 s2427 h24
          refine ⟨_, rfl, qa, _, rfl, ⟨h27, tq, by omega⟩, fun k1 m1 H28 hk1 s28 pm1 fal1 bd1 l1 h28 => ?_⟩
          refine ⟨_, rfl, b, t2, rfl, ⟨s28 _ _ h27b, tp, lp'⟩, fun k2 m2 H29 hk2 s29 pm2 fal2 bd2 l2 h29 => ?_⟩
          have em : m1 = m2 := sorted_same ((pm1.trans kq).trans pm2.symm) fal1 fal2
          subst em
          refine ⟨k1, k2, _, _, _, rfl, rfl, SqL.of (s29 _ _ h28), SqL.of h29, leq_ints _ _ _ _ _, _, rfl, ?_⟩
          rw [decide_eq_true rfl]
          refine iteF ?_
          have s2729 := s28.trans s29
          refine ⟨_, rfl, qa, _, rfl, ⟨s2729 _ _ h27, tq, by omega⟩, fun hq H30 s30 lcq => ?_⟩
          have s2730 := s2729.trans s30
          refine ⟨_, rfl, b, t2, rfl, ⟨s2730 _ _ h27b, tp, lp'⟩, fun hp H31 s31 lcp => ?_⟩
          have eh : hq = hp := home_same kq lcq lcp
          subst eh
          refine ⟨rfl, _, rfl, ?_⟩
          rw [decide_eq_true rfl]
          refine iteF ?_
          have s2731 := s2730.trans s31
          refine ⟨_, rfl, b, t2, rfl, ⟨s2731 _ _ h27b, tp, lp'⟩, fun w3 b3 H32 hw3 s32 pb3 h32 => ?_⟩
          have tb3 := pow_isT tp pb3
          refine ⟨w3, b3, rfl, ⟨h32, tb3, by rw [pb3.1]; exact lp'⟩, fun h3 H33 s33 lc3 => ?_⟩
          have s2733 := (s2731.trans s32).trans s33
          refine ⟨_, rfl, b, t2, rfl, ⟨s2733 _ _ h27b, tp, lp'⟩, fun h4 H34 s34 lc4 => ?_⟩
          have eh3 : h3 = h4 := home_same (kind_perm (cnt_back tp pb3)) lc3 lc4
          subst eh3
          refine ⟨rfl, _, rfl, ?_⟩
          rw [decide_eq_true rfl]
          refine iteF ?_
          have s2734 := s2733.trans s34
          have h34b := s2734 _ _ h27b
          have h34R := s2734 _ _ h27R
          have h34s := s2734 _ _ h27s
          have h34q := s2734 _ _ h27
          have rows34 : RowsH H34 as rs := rows_keep rows27 fun c _ o e => s2734 c o e
          have P34 := pool_same P27 s2734
          have s034 := s027.trans s2734
          clear rows27 h27R h27b P27 s027 h27s h27 s28 s29 s30 s31 s32 s33 s34 s2729 s2730 s2731 s2733 s2734 h28 h29 h32 pm1 pm2 fal1 fal2 bd1 bd2 l1 l2 lcp lc4 lcq lc3
          refine ⟨_, rfl, qa, _, rfl, ⟨h34q, tq, by omega⟩, fun R3 as3 rs3 H35 hR3 s35 h35R3 rows3 up3 fa3 nda3 nra3 => ?_⟩
          have h35R := s35 _ _ h34R
          have h35s := s35 _ _ h34s
          have rows35 : RowsH H35 as rs := rows_keep rows34 fun c _ o e => s35 c o e
          refine ⟨_, rfl, R, rfl, ⟨_, SqL.of h35R⟩, comp_list (K := K) (a := R) (xs := as.map V.ref) (fun j ys σ H36 => ∃ (v : Option V) (cs : List Addr) (qs : List (List Int)), σ = [v, some (.ref sa)] ∧ ys = cs.map V.ref ∧ RowsH H36 cs qs ∧ cs.length = j ∧ (∀ r ∈ qs, ∃ x L, Mth.In (comp (comp s' t2) b2) x ∧ Per (comp (comp s' t2) b2) x L ∧ r = ringL (comp (comp s' t2) b2) x L ∧ ∀ y ∈ r, x ≤ y) ∧ qs.flatten.Perm ((rs.take j).flatten.map (nx s')) ∧ Same H35 H36)
            ⟨none, [], [], rfl, rfl, ⟨rfl, fun j b r h => by cases h⟩, rfl, (fun r hr => by cases hr), List.Perm.refl _, Same.refl H35⟩ (fun j ys σ H36 _ ⟨_, _, _, _, _, _, _, _, _, s⟩ => SqL.of (s _ _ h35R)) ?_ ?_⟩
          · rintro j x ys σ H36 hj ⟨v, cs, qs, rfl, rfl, rowsC, lcs, cn, fl, s36⟩
            obtain ⟨e, he, rfl⟩ : ∃ a, as[j]? = some a ∧ x = V.ref a := by
              rw [List.getElem?_map] at hj
              cases e : as[j]? with
              | none => rw [e] at hj; cases hj
              | some a => rw [e] at hj; exact ⟨a, rfl, (Option.some.inj hj).symm⟩
            have jl : j < rs.length := by rw [← rows35.1]; exact (List.getElem?_eq_some_iff.mp he).1
            obtain ⟨r, hr'⟩ : ∃ r, rs[j]? = some r := ⟨_, List.getElem?_eq_getElem jl⟩
            obtain ⟨x, L, hx, pr, er, _, _⟩ := up.ring r (List.mem_of_getElem? hr')
            have hL40 := ring_bound tp hx (m := L) fun i i0 i1 => pr.least i i0 i1
            have h36e := s36 _ _ (rows35.2 j e r he hr')
            have h36s := s36 _ _ h35s
            have inr : ∀ y ∈ r, Mth.In t2 y := by rw [er]; exact ringL_in tp hx
            have lr : r.length = L := by rw [er, ringL_len]
            refine ⟨_, rfl, e, rfl, ⟨_, SqL.of h36e⟩, comp_list (K := K) (a := e) (xs := r.map V.int) (fun k zs σ H37 => ∃ v : Option V, σ = [v, some (.ref sa)] ∧ H37 = H36 ∧ zs = ((r.take k).map (nx s')).map V.int)
              ⟨none, rfl, rfl, rfl⟩ (fun k zs σ H37 _ ⟨_, _, e, _⟩ => by rw [e]; exact SqL.of h36e) ?_ ?_⟩
            · rintro k y zs σ H37 hk ⟨v, rfl, rfl, rfl⟩
              obtain ⟨z, hz, rfl⟩ := getElem_int hk
              have hin := inr z (List.mem_of_getElem? hz)
              have hin' : Mth.In s' z := ⟨hin.1, by rw [ls]; exact hin.2⟩
              refine ⟨_, rfl, _, rfl, sa, _, _, _, rfl, rfl, SqL.of h36s, atI_map hin'.1 hin'.2, small1000 (by rw [List.length_map, List.length_map, List.length_take]; omega), _, rfl, rfl, ?_⟩
              rw [take_succ_of hz, List.map_append, List.map_append]
              rfl
            · rintro zs σ H37 ⟨v, rfl, rfl, rfl⟩ D3 hD3
              rw [List.length_map, List.take_length, er, map_ring tp ts ls pb2 hx]
              have hxs : Mth.In s' x := ⟨hx.1, by rw [ls]; exact hx.2⟩
              have hnx := nx_in ts hxs
              have hnq : Mth.In (comp (comp s' t2) b2) (nx s' x) := ⟨hnx.1, by rw [lq, ← ls]; exact hnx.2⟩
              have prq := per_conj tp ts ls pb2 hx pr
              refine ⟨D3, _, _, L, rfl, upd_same, tq, hnq, prq, by omega, fun u k H38 hu s38 hk lo h38 => ?_⟩
              have s37 : Same H37 H38 := (Same.upd_new hD3).trans s38
              refine ⟨small1000 (by rw [List.length_map]; omega), some (.ref e), cs ++ [u], _, rfl, by rw [List.map_append]; rfl, rows_snoc (rows_keep rowsC fun c _ o h => s37 c o h) h38, by rw [List.length_append, lcs]; rfl, fun r2 hr2 => ?_, ?_, s36.trans s37⟩
              · rcases List.mem_append.mp hr2 with z | z
                · exact cn r2 z
                · rw [List.mem_singleton.mp z]
                  refine ⟨_, L, it_in tq hnq k, prq.shift tq hnq k, rfl, fun y hy => lo y ?_⟩
                  rw [← ringL_rot prq (show k ≤ L by omega)] at hy
                  exact (rot_perm _ _).mem_iff.mp hy
              · rw [take_succ_of hr', List.flatten_append, List.flatten_append, List.flatten_singleton, List.flatten_singleton, List.map_append]
                refine List.Perm.append fl ?_
                rw [← ringL_rot prq (show k ≤ L by omega)]
                refine (rot_perm _ _).trans ?_
                rw [← map_ring tp ts ls pb2 hx, er]
          · rintro ys σ H36 ⟨v, cs, qs, rfl, rfl, rowsC, lcs, cn, fl, s36⟩ D4 hD4
            rw [List.length_map, rows35.1, List.take_length] at fl
            have flq : qs.flatten.Perm (upTo 0 (comp (comp s' t2) b2).length) := by
              rw [lq]
              refine fl.trans ((td.flat.map (nx s')).trans ?_)
              rw [map_nx_upTo ls]
              have := ts.perm
              rw [ls] at this
              exact this
            have canQ : Canon (comp (comp s' t2) b2) qs := ⟨cn, flq⟩
            have s37 : Same H36 (upd H36 D4 (.lst (cs.map V.ref))) := Same.upd_new hD4
            have h37 : (upd H36 D4 (.lst (cs.map V.ref))) D4 = some (.lst (cs.map V.ref)) := upd_same
            generalize (upd H36 D4 (.lst (cs.map V.ref))) = H37 at s37 h37 ⊢
            refine ⟨D4, cs, qs, rfl, SqL.of h37, rows_keep rowsC fun c _ o h => s37 c o h, fun cs' ts' u pb pt rowsT st hu => ?_⟩
            have ets := canon_sorted tq up3 canQ pt st
            subst ets
            have s38 : Same H37 (upd H37 u (.lst (cs'.map V.ref))) := Same.upd_new hu
            have h38 : (upd H37 u (.lst (cs'.map V.ref))) u = some (.lst (cs'.map V.ref)) := upd_same
            generalize (upd H37 u (.lst (cs'.map V.ref))) = H38 at s38 h38 ⊢
            have s3538 := (s36.trans s37).trans s38
            refine ⟨R3, u, _, _, _, rfl, rfl, SqL.of (s3538 _ _ h35R3), SqL.of h38, leq_rowsH (rows_keep rows3 fun c _ o h => s3538 c o h) (rows_keep rowsT fun c _ o h => s38 c o h), _, rfl, ?_⟩
            rw [decide_eq_true rfl]
            refine iteF ?_
            have s3438 := s35.trans s3538
            have h38b := s3438 _ _ h34b
            have P38 := pool_same P34 s3438
            have s038 := s034.trans s3438
            clear rowsC cn fl flq canQ s37 h37 s38 h38 rowsT st pt pb s36 s3538 s3438 rows3 up3 rows35 h35R h35s s35 h35R3 s034 P34 rows34 h34q h34s h34R h34b
            refine ⟨_, rfl, _, rfl, g, _, 50, rfl, P38, by rw [List.length_map]; omega, by decide, by decide, fun r1 H39 r10 r11 P39 kb39 => ?_⟩
            have h39b := kb39 _ _ h38b nbg
            refine ⟨b, t2, r1, rfl, ⟨h39b, tp, lp'⟩, fun o1 p1 H40 ho1 s40 pw1 h40 => ?_⟩
            have P40 := pool_same P39 s40
            have no1 : o1 ≠ g := pool_ne P39 ho1
            refine ⟨_, rfl, _, rfl, g, _, 50, rfl, P40, by rw [List.length_map]; omega, by decide, by decide, fun r2 H41 r20 r21 P41 kb41 => ?_⟩
            have h41b := kb41 _ _ (s40 _ _ h39b) nbg
            have h41o := kb41 _ _ h40 no1
            refine ⟨b, t2, r2, rfl, ⟨h41b, tp, lp'⟩, fun o2 p2 H42 ho2 s42 pw2 h42 => ?_⟩
            have t1 := pow_isT tp pw1
            have t2' := pow_isT tp pw2
            have s042 : Same H H42 := (((s038.kb kb39 hg0).trans s40).kb kb41 hg0).trans s42
            have h42b := s42 _ _ h41b
            have h42o := s42 _ _ h41o
            refine ⟨_, rfl, b, t2, rfl, ⟨h42b, tp, lp'⟩, fun hA H43 s43 lcA => ?_⟩
            refine ⟨_, rfl, _, rfl, o1, o2, p1, p2, rfl, ⟨s43 _ _ h42o, t1, by rw [pw1.1]; exact lp'⟩, ⟨s43 _ _ h42, t2', by rw [pw2.1]; exact lp'⟩, by rw [pw1.1, pw2.1], fun c3 H44 hc3 s44 h44 => ?_⟩
            have pw12 := pow_comp tp pw1 pw2
            have t12 := pow_isT tp pw12
            refine ⟨c3, _, rfl, ⟨h44, t12, by rw [pw12.1]; exact lp'⟩, fun hB H45 s45 lcB => ?_⟩
            have hhA := homeIs_of tp (kind_lens t2) lcA
            have d1 := home_pow tp pw12 hhA (homeIs_of t12 (kind_lens _) lcB)
            have s4245 := (s43.trans s44).trans s45
            refine ⟨_, _, rfl, rfl, (show (0 : Int) < (hB : Int) by have := lcB.pos; omega), rfl, _, rfl, ?_⟩
            refine iteNS (congrArg V.int (mod_home d1)) ?_
            refine ⟨_, rfl, b, t2, rfl, ⟨s4245 _ _ h42b, tp, lp'⟩, fun hC H46 s46 lcC => ?_⟩
            have s4246 := s4245.trans s46
            refine ⟨_, rfl, o1, p1, rfl, ⟨s4246 _ _ h42o, t1, by rw [pw1.1]; exact lp'⟩, fun hD H47 s47 lcD => ?_⟩
            have d2 := home_pow tp pw1 (homeIs_of tp (kind_lens t2) lcC) (homeIs_of t1 (kind_lens _) lcD)
            refine ⟨_, _, rfl, rfl, (show (0 : Int) < (hD : Int) by have := lcD.pos; omega), rfl, _, rfl, ?_⟩
            exact iteNS (congrArg V.int (mod_home d2)) ⟨_, _, _, _, _, _, _, _, _, rfl, (s042.trans s4246).trans s47⟩
end
end My
namespace My
open PySem L2 Mth
theorem all_mk {l : PySem.W.OpenLaw} {w : World} {K : PySem.W.Frag} {h : Heap} {mg : Str → Option Value} {fa f0 f1 f2 f3 f4 f5 f6 f7 f8 f9 f10 f11 f12 f13 f14 f15 f16 f17 f18 f19 f20 f21 f22 f23 f24 f25 : Addr} (X : K.In h) (G : h.Ns mainGlobals mg) (hfa : mg "law" = some (.ref fa))
    {od0 an0 od1 an1 od2 an2 od3 an3 od4 an4 od5 an5 od6 an6 od7 an7 od8 an8 od9 an9 od10 an10 od11 an11 od12 an12 od13 an13 od14 an14 od15 an15 od16 an16 od17 an17 od18 an18 od19 an19 od20 an20 od21 an21 od22 an22 od23 an23 od24 an24 od25 an25 : Option Addr} {sl0 sl1 sl2 sl3 sl4 sl5 sl6 sl7 sl8 sl9 sl10 sl11 sl12 sl13 sl14 sl15 sl16 sl17 sl18 sl19 sl20 sl21 sl22 sl23 sl24 sl25 : Array (Option Value)} {oc0 kV0 dc0 pm0 cd0 ct0 oc1 kV1 dc1 pm1 cd1 ct1 oc2 kV2 dc2 pm2 cd2 ct2 oc3 kV3 dc3 pm3 cd3 ct3 oc4 kV4 dc4 pm4 cd4 ct4 oc5 kV5 dc5 pm5 cd5 ct5 oc6 kV6 dc6 pm6 cd6 ct6 oc7 kV7 dc7 pm7 cd7 ct7 oc8 kV8 dc8 pm8 cd8 ct8 oc9 kV9 dc9 pm9 cd9 ct9 oc10 kV10 dc10 pm10 cd10 ct10 oc11 kV11 dc11 pm11 cd11 ct11 oc12 kV12 dc12 pm12 cd12 ct12 oc13 kV13 dc13 pm13 cd13 ct13 oc14 kV14 dc14 pm14 cd14 ct14 oc15 kV15 dc15 pm15 cd15 ct15 oc16 kV16 dc16 pm16 cd16 ct16 oc17 kV17 dc17 pm17 cd17 ct17 oc18 kV18 dc18 pm18 cd18 ct18 oc19 kV19 dc19 pm19 cd19 ct19 oc20 kV20 dc20 pm20 cd20 ct20 oc21 kV21 dc21 pm21 cd21 ct21 oc22 kV22 dc22 pm22 cd22 ct22 oc23 kV23 dc23 pm23 cd23 ct23 oc24 kV24 dc24 pm24 cd24 ct24 oc25 kV25 dc25 pm25 cd25 ct25 : Value} {tk0 : Tok}
    (a0 : PySem.W.nsIn K mainGlobals "is_whole" = some (some (.ref f0))) (l0 : K.lookup f0 = some ⟨oc0, od0, .func (PySem.W.fnOf "is_whole" "is_whole" (defArgs s_is_whole) (defBody s_is_whole) (defScope s_is_whole) .none kV0 dc0 pm0 an0 cd0 ct0), sl0⟩) (c0 : PySem.W.codeIn K cd0 "is_whole" = true) (k0 : PySem.W.keepIn K (.ref f0) = true)
    (a1 : PySem.W.nsIn K mainGlobals "greatest_part" = some (some (.ref f1))) (l1 : K.lookup f1 = some ⟨oc1, od1, .func (PySem.W.fnOf "greatest_part" "greatest_part" (defArgs s_greatest_part) (defBody s_greatest_part) (defScope s_greatest_part) .none kV1 dc1 pm1 an1 cd1 ct1), sl1⟩) (c1 : PySem.W.codeIn K cd1 "greatest_part" = true) (k1 : PySem.W.keepIn K (.ref f1) = true)
    (a2 : PySem.W.nsIn K mainGlobals "walk_ring" = some (some (.ref f2))) (l2 : K.lookup f2 = some ⟨oc2, od2, .func (PySem.W.fnOf "walk_ring" "walk_ring" (defArgs s_walk_ring) (defBody s_walk_ring) (defScope s_walk_ring) .none kV2 dc2 pm2 an2 cd2 ct2), sl2⟩) (c2 : PySem.W.codeIn K cd2 "walk_ring" = true) (k2 : PySem.W.keepIn K (.ref f2) = true)
    (a3 : PySem.W.nsIn K mainGlobals "walk_rings" = some (some (.ref f3))) (l3 : K.lookup f3 = some ⟨oc3, od3, .func (PySem.W.fnOf "walk_rings" "walk_rings" (defArgs s_walk_rings) (defBody s_walk_rings) (defScope s_walk_rings) .none kV3 dc3 pm3 an3 cd3 ct3), sl3⟩) (c3 : PySem.W.codeIn K cd3 "walk_rings" = true) (k3 : PySem.W.keepIn K (.ref f3) = true)
    (a4 : PySem.W.nsIn K mainGlobals "send_along" = some (some (.ref f4))) (l4 : K.lookup f4 = some ⟨oc4, od4, .func (PySem.W.fnOf "send_along" "send_along" (defArgs s_send_along) (defBody s_send_along) (defScope s_send_along) .none kV4 dc4 pm4 an4 cd4 ct4), sl4⟩) (c4 : PySem.W.codeIn K cd4 "send_along" = true) (k4 : PySem.W.keepIn K (.ref f4) = true)
    (a5 : PySem.W.nsIn K mainGlobals "is_turn" = some (some (.ref f5))) (l5 : K.lookup f5 = some ⟨oc5, od5, .func (PySem.W.fnOf "is_turn" "is_turn" (defArgs s_is_turn) (defBody s_is_turn) (defScope s_is_turn) .none kV5 dc5 pm5 an5 cd5 ct5), sl5⟩) (c5 : PySem.W.codeIn K cd5 "is_turn" = true) (k5 : PySem.W.keepIn K (.ref f5) = true)
    (a6 : PySem.W.nsIn K mainGlobals "must_be_turn" = some (some (.ref f6))) (l6 : K.lookup f6 = some ⟨oc6, od6, .func (PySem.W.fnOf "must_be_turn" "must_be_turn" (defArgs s_must_be_turn) (defBody s_must_be_turn) (defScope s_must_be_turn) .none kV6 dc6 pm6 an6 cd6 ct6), sl6⟩) (c6 : PySem.W.codeIn K cd6 "must_be_turn" = true) (k6 : PySem.W.keepIn K (.ref f6) = true)
    (a7 : PySem.W.nsIn K mainGlobals "must_fit" = some (some (.ref f7))) (l7 : K.lookup f7 = some ⟨oc7, od7, .func (PySem.W.fnOf "must_fit" "must_fit" (defArgs s_must_fit) (defBody s_must_fit) (defScope s_must_fit) .none kV7 dc7 pm7 an7 cd7 ct7), sl7⟩) (c7 : PySem.W.codeIn K cd7 "must_fit" = true) (k7 : PySem.W.keepIn K (.ref f7) = true)
    (a8 : PySem.W.nsIn K mainGlobals "put_behind" = some (some (.ref f8))) (l8 : K.lookup f8 = some ⟨oc8, od8, .func (PySem.W.fnOf "put_behind" "put_behind" (defArgs s_put_behind) (defBody s_put_behind) (defScope s_put_behind) .none kV8 dc8 pm8 an8 cd8 ct8), sl8⟩) (c8 : PySem.W.codeIn K cd8 "put_behind" = true) (k8 : PySem.W.keepIn K (.ref f8) = true)
    (a9 : PySem.W.nsIn K mainGlobals "power_of" = some (some (.ref f9))) (l9 : K.lookup f9 = some ⟨oc9, od9, .func (PySem.W.fnOf "power_of" "power_of" (defArgs s_power_of) (defBody s_power_of) (defScope s_power_of) .none kV9 dc9 pm9 an9 cd9 ct9), sl9⟩) (c9 : PySem.W.codeIn K cd9 "power_of" = true) (k9 : PySem.W.keepIn K (.ref f9) = true)
    (a10 : PySem.W.nsIn K mainGlobals "way_back" = some (some (.ref f10))) (l10 : K.lookup f10 = some ⟨oc10, od10, .func (PySem.W.fnOf "way_back" "way_back" (defArgs s_way_back) (defBody s_way_back) (defScope s_way_back) .none kV10 dc10 pm10 an10 cd10 ct10), sl10⟩) (c10 : PySem.W.codeIn K cd10 "way_back" = true) (k10 : PySem.W.keepIn K (.ref f10) = true)
    (a11 : PySem.W.nsIn K mainGlobals "rounds_of" = some (some (.ref f11))) (l11 : K.lookup f11 = some ⟨oc11, od11, .func (PySem.W.fnOf "rounds_of" "rounds_of" (defArgs s_rounds_of) (defBody s_rounds_of) (defScope s_rounds_of) .none kV11 dc11 pm11 an11 cd11 ct11), sl11⟩) (c11 : PySem.W.codeIn K cd11 "rounds_of" = true) (k11 : PySem.W.keepIn K (.ref f11) = true)
    (a12 : PySem.W.nsIn K mainGlobals "kind_of" = some (some (.ref f12))) (l12 : K.lookup f12 = some ⟨oc12, od12, .func (PySem.W.fnOf "kind_of" "kind_of" (defArgs s_kind_of) (defBody s_kind_of) (defScope s_kind_of) .none kV12 dc12 pm12 an12 cd12 ct12), sl12⟩) (c12 : PySem.W.codeIn K cd12 "kind_of" = true) (k12 : PySem.W.keepIn K (.ref f12) = true)
    (a13 : PySem.W.nsIn K mainGlobals "home_of" = some (some (.ref f13))) (l13 : K.lookup f13 = some ⟨oc13, od13, .func (PySem.W.fnOf "home_of" "home_of" (defArgs s_home_of) (defBody s_home_of) (defScope s_home_of) .none kV13 dc13 pm13 an13 cd13 ct13), sl13⟩) (c13 : PySem.W.codeIn K cd13 "home_of" = true) (k13 : PySem.W.keepIn K (.ref f13) = true)
    (a14 : PySem.W.nsIn K mainGlobals "are_filled_lists" = some (some (.ref f14))) (l14 : K.lookup f14 = some ⟨oc14, od14, .func (PySem.W.fnOf "are_filled_lists" "are_filled_lists" (defArgs s_are_filled_lists) (defBody s_are_filled_lists) (defScope s_are_filled_lists) .none kV14 dc14 pm14 an14 cd14 ct14), sl14⟩) (c14 : PySem.W.codeIn K cd14 "are_filled_lists" = true) (k14 : PySem.W.keepIn K (.ref f14) = true)
    (a15 : PySem.W.nsIn K mainGlobals "things_in" = some (some (.ref f15))) (l15 : K.lookup f15 = some ⟨oc15, od15, .func (PySem.W.fnOf "things_in" "things_in" (defArgs s_things_in) (defBody s_things_in) (defScope s_things_in) .none kV15 dc15 pm15 an15 cd15 ct15), sl15⟩) (c15 : PySem.W.codeIn K cd15 "things_in" = true) (k15 : PySem.W.keepIn K (.ref f15) = true)
    (a16 : PySem.W.nsIn K mainGlobals "from_rounds" = some (some (.ref f16))) (l16 : K.lookup f16 = some ⟨oc16, od16, .func (PySem.W.fnOf "from_rounds" "from_rounds" (defArgs s_from_rounds) (defBody s_from_rounds) (defScope s_from_rounds) .none kV16 dc16 pm16 an16 cd16 ct16), sl16⟩) (c16 : PySem.W.codeIn K cd16 "from_rounds" = true) (k16 : PySem.W.keepIn K (.ref f16) = true)
    (a17 : PySem.W.nsIn K mainGlobals "_law_pool" = some (some (.ref f17))) (l17 : K.lookup f17 = some ⟨oc17, od17, .func (PySem.W.fnOf "_law_pool" "_law_pool" (defArgs s_law_pool) (defBody s_law_pool) (defScope s_law_pool) .none kV17 dc17 pm17 an17 cd17 ct17), sl17⟩) (c17 : PySem.W.codeIn K cd17 "_law_pool" = true) (k17 : PySem.W.keepIn K (.ref f17) = true)
    (a18 : PySem.W.nsIn K mainGlobals "_law_take" = some (some (.ref f18))) (l18 : K.lookup f18 = some ⟨oc18, od18, .func (PySem.W.fnOf "_law_take" "_law_take" (defArgs s_law_take) (defBody s_law_take) (defScope s_law_take) .none kV18 dc18 pm18 an18 cd18 ct18), sl18⟩) (c18 : PySem.W.codeIn K cd18 "_law_take" = true) (k18 : PySem.W.keepIn K (.ref f18) = true)
    (a19 : PySem.W.nsIn K mainGlobals "_law_mixed_up" = some (some (.ref f19))) (l19 : K.lookup f19 = some ⟨oc19, od19, .func (PySem.W.fnOf "_law_mixed_up" "_law_mixed_up" (defArgs s_law_mixed_up) (defBody s_law_mixed_up) (defScope s_law_mixed_up) .none kV19 dc19 pm19 an19 cd19 ct19), sl19⟩) (c19 : PySem.W.codeIn K cd19 "_law_mixed_up" = true) (k19 : PySem.W.keepIn K (.ref f19) = true)
    (a20 : PySem.W.nsIn K mainGlobals "_law_by_lengths" = some (some (.ref f20))) (l20 : K.lookup f20 = some ⟨oc20, od20, .func (PySem.W.fnOf "_law_by_lengths" "_law_by_lengths" (defArgs s_law_by_lengths) (defBody s_law_by_lengths) (defScope s_law_by_lengths) .none kV20 dc20 pm20 an20 cd20 ct20), sl20⟩) (c20 : PySem.W.codeIn K cd20 "_law_by_lengths" = true) (k20 : PySem.W.keepIn K (.ref f20) = true)
    (a21 : PySem.W.nsIn K mainGlobals "_law_lengths" = some (some (.ref f21))) (l21 : K.lookup f21 = some ⟨oc21, od21, .func (PySem.W.fnOf "_law_lengths" "_law_lengths" (defArgs s_law_lengths) (defBody s_law_lengths) (defScope s_law_lengths) .none kV21 dc21 pm21 an21 cd21 ct21), sl21⟩) (c21 : PySem.W.codeIn K cd21 "_law_lengths" = true) (k21 : PySem.W.keepIn K (.ref f21) = true)
    (a22 : PySem.W.nsIn K mainGlobals "_law_turn" = some (some (.ref f22))) (l22 : K.lookup f22 = some ⟨oc22, od22, .func (PySem.W.fnOf "_law_turn" "_law_turn" (defArgs s_law_turn) (defBody s_law_turn) (defScope s_law_turn) .none kV22 dc22 pm22 an22 cd22 ct22), sl22⟩) (c22 : PySem.W.codeIn K cd22 "_law_turn" = true) (k22 : PySem.W.keepIn K (.ref f22) = true)
    (a23 : PySem.W.nsIn K mainGlobals "_law_begun" = some (some (.ref f23))) (l23 : K.lookup f23 = some ⟨oc23, od23, .func (PySem.W.fnOf "_law_begun" "_law_begun" (defArgs s_law_begun) (defBody s_law_begun) (defScope s_law_begun) .none kV23 dc23 pm23 an23 cd23 ct23), sl23⟩) (c23 : PySem.W.codeIn K cd23 "_law_begun" = true) (k23 : PySem.W.keepIn K (.ref f23) = true)
    (a24 : PySem.W.nsIn K mainGlobals "_law_turned_rounds" = some (some (.ref f24))) (l24 : K.lookup f24 = some ⟨oc24, od24, .func (PySem.W.fnOf "_law_turned_rounds" "_law_turned_rounds" (defArgs s_law_turned_rounds) (defBody s_law_turned_rounds) (defScope s_law_turned_rounds) .none kV24 dc24 pm24 an24 cd24 ct24), sl24⟩) (c24 : PySem.W.codeIn K cd24 "_law_turned_rounds" = true) (k24 : PySem.W.keepIn K (.ref f24) = true)
    (a25 : PySem.W.nsIn K mainGlobals "law" = some (some (.ref f25))) (l25 : K.lookup f25 = some ⟨oc25, od25, .func (PySem.W.fnOf "law" "law" (defArgs s_law) (defBody s_law) (defScope s_law) .none kV25 dc25 pm25 an25 cd25 ct25), sl25⟩) (c25 : PySem.W.codeIn K cd25 "law" = true) (k25 : PySem.W.keepIn K (.ref f25) = true)
    (m0 : PySem.W.nsIn K mainGlobals "MOST_THINGS" = some (some (.int 40 tk0)))
    (z0 : PySem.W.nsIn K mainGlobals "len" = some none)
    (z1 : PySem.W.nsIn K mainGlobals "isinstance" = some none)
    (z2 : PySem.W.nsIn K mainGlobals "int" = some none)
    (z3 : PySem.W.nsIn K mainGlobals "bool" = some none)
    (z4 : PySem.W.nsIn K mainGlobals "list" = some none)
    (z5 : PySem.W.nsIn K mainGlobals "range" = some none)
    (z6 : PySem.W.nsIn K mainGlobals "sum" = some none)
    (z7 : PySem.W.nsIn K mainGlobals "min" = some none)
    (z8 : PySem.W.nsIn K mainGlobals "max" = some none)
    (z9 : PySem.W.nsIn K mainGlobals "enumerate" = some none)
    (z10 : PySem.W.nsIn K mainGlobals "zip" = some none)
    (z11 : PySem.W.nsIn K mainGlobals "sorted" = some none)
    (z12 : PySem.W.nsIn K mainGlobals "tuple" = some none)
    (z13 : PySem.W.nsIn K mainGlobals "str" = some none)
    (z14 : PySem.W.nsIn K mainGlobals "repr" = some none)
    (z15 : PySem.W.nsIn K mainGlobals "all" = some none)
    (z16 : PySem.W.nsIn K mainGlobals "any" = some none)
    (z17 : PySem.W.nsIn K mainGlobals "set" = some none)
    (z18 : PySem.W.nsIn K mainGlobals "dict" = some none)
    (z19 : PySem.W.nsIn K mainGlobals "ValueError" = some none)
    : ∃ fd : FuncData, (∀ (s : Shared) (v : Value), BindsTo s fd ⟨[v], []⟩ [("script", v)]) ∧ ∀ base : Heap, K.In base → base.Ns mainGlobals mg → FnOk l.prog w K mg base CX0 7 fa fd ["script"] (spLaw K) := by
  have e := hfa.symm.trans (PySem.W.mg_of X G a25)
  cases e
  have B : Bl mg := ⟨PySem.W.mg_none_of X G z0, PySem.W.mg_none_of X G z1, PySem.W.mg_none_of X G z2, PySem.W.mg_none_of X G z3, PySem.W.mg_none_of X G z4, PySem.W.mg_none_of X G z5, PySem.W.mg_none_of X G z6, PySem.W.mg_none_of X G z7, PySem.W.mg_none_of X G z8, PySem.W.mg_none_of X G z9, PySem.W.mg_none_of X G z10, PySem.W.mg_none_of X G z11, PySem.W.mg_none_of X G z12, PySem.W.mg_none_of X G z13, PySem.W.mg_none_of X G z14, PySem.W.mg_none_of X G z15, PySem.W.mg_none_of X G z16, PySem.W.mg_none_of X G z17, PySem.W.mg_none_of X G z18, PySem.W.mg_none_of X G z19⟩
  have mt : ∃ t, mg "MOST_THINGS" = some (.int 40 t) := ⟨_, PySem.W.mg_of X G m0⟩
  have F0 := fun_mk (st := s_is_whole) l0 c0 k0
  have b0 := F0.binds (ps := ["thing"]) fun _ _ _ _ _ _ us hl => match us, hl with | [_], _ => rfl
  have F1 := fun_mk (st := s_greatest_part) l1 c1 k1
  have b1 := F1.binds (ps := ["a", "b"]) fun _ _ _ _ _ _ us hl => match us, hl with | [_, _], _ => rfl
  have F2 := fun_mk (st := s_walk_ring) l2 c2 k2
  have b2 := F2.binds (ps := ["p", "first"]) fun _ _ _ _ _ _ us hl => match us, hl with | [_, _], _ => rfl
  have F3 := fun_mk (st := s_walk_rings) l3 c3 k3
  have b3 := F3.binds (ps := ["p"]) fun _ _ _ _ _ _ us hl => match us, hl with | [_], _ => rfl
  have F4 := fun_mk (st := s_send_along) l4 c4 k4
  have b4 := F4.binds (ps := ["target", "ring", "steps"]) fun _ _ _ _ _ _ us hl => match us, hl with | [_, _, _], _ => rfl
  have F5 := fun_mk (st := s_is_turn) l5 c5 k5
  have b5 := F5.binds (ps := ["thing"]) fun _ _ _ _ _ _ us hl => match us, hl with | [_], _ => rfl
  have F6 := fun_mk (st := s_must_be_turn) l6 c6 k6
  have b6 := F6.binds (ps := ["thing"]) fun _ _ _ _ _ _ us hl => match us, hl with | [_], _ => rfl
  have F7 := fun_mk (st := s_must_fit) l7 c7 k7
  have b7 := F7.binds (ps := ["p", "q"]) fun _ _ _ _ _ _ us hl => match us, hl with | [_, _], _ => rfl
  have F8 := fun_mk (st := s_put_behind) l8 c8 k8
  have b8 := F8.binds (ps := ["p", "q"]) fun _ _ _ _ _ _ us hl => match us, hl with | [_, _], _ => rfl
  have F9 := fun_mk (st := s_power_of) l9 c9 k9
  have b9 := F9.binds (ps := ["p", "k"]) fun _ _ _ _ _ _ us hl => match us, hl with | [_, _], _ => rfl
  have F10 := fun_mk (st := s_way_back) l10 c10 k10
  have b10 := F10.binds (ps := ["p"]) fun _ _ _ _ _ _ us hl => match us, hl with | [_], _ => rfl
  have F11 := fun_mk (st := s_rounds_of) l11 c11 k11
  have b11 := F11.binds (ps := ["p"]) fun _ _ _ _ _ _ us hl => match us, hl with | [_], _ => rfl
  have F12 := fun_mk (st := s_kind_of) l12 c12 k12
  have b12 := F12.binds (ps := ["p"]) fun _ _ _ _ _ _ us hl => match us, hl with | [_], _ => rfl
  have F13 := fun_mk (st := s_home_of) l13 c13 k13
  have b13 := F13.binds (ps := ["p"]) fun _ _ _ _ _ _ us hl => match us, hl with | [_], _ => rfl
  have F14 := fun_mk (st := s_are_filled_lists) l14 c14 k14
  have b14 := F14.binds (ps := ["rounds"]) fun _ _ _ _ _ _ us hl => match us, hl with | [_], _ => rfl
  have F15 := fun_mk (st := s_things_in) l15 c15 k15
  have b15 := F15.binds (ps := ["rounds"]) fun _ _ _ _ _ _ us hl => match us, hl with | [_], _ => rfl
  have F16 := fun_mk (st := s_from_rounds) l16 c16 k16
  have b16 := F16.binds (ps := ["rounds"]) fun _ _ _ _ _ _ us hl => match us, hl with | [_], _ => rfl
  have F17 := fun_mk (st := s_law_pool) l17 c17 k17
  have b17 := F17.binds (ps := ["script", "k"]) fun _ _ _ _ _ _ us hl => match us, hl with | [_, _], _ => rfl
  have F18 := fun_mk (st := s_law_take) l18 c18 k18
  have b18 := F18.binds (ps := ["pool", "many"]) fun _ _ _ _ _ _ us hl => match us, hl with | [_, _], _ => rfl
  have F19 := fun_mk (st := s_law_mixed_up) l19 c19 k19
  have b19 := F19.binds (ps := ["pool", "things"]) fun _ _ _ _ _ _ us hl => match us, hl with | [_, _], _ => rfl
  have F20 := fun_mk (st := s_law_by_lengths) l20 c20 k20
  have b20 := F20.binds (ps := ["pool", "lengths"]) fun _ _ _ _ _ _ us hl => match us, hl with | [_, _], _ => rfl
  have F21 := fun_mk (st := s_law_lengths) l21 c21 k21
  have b21 := F21.binds (ps := ["pool", "many"]) fun _ _ _ _ _ _ us hl => match us, hl with | [_, _], _ => rfl
  have F22 := fun_mk (st := s_law_turn) l22 c22 k22
  have b22 := F22.binds (ps := ["pool", "most"]) fun _ _ _ _ _ _ us hl => match us, hl with | [_, _], _ => rfl
  have F23 := fun_mk (st := s_law_begun) l23 c23 k23
  have b23 := F23.binds (ps := ["one"]) fun _ _ _ _ _ _ us hl => match us, hl with | [_], _ => rfl
  have F24 := fun_mk (st := s_law_turned_rounds) l24 c24 k24
  have b24 := F24.binds (ps := ["pool", "rounds"]) fun _ _ _ _ _ _ us hl => match us, hl with | [_, _], _ => rfl
  have F25 := fun_mk (st := s_law) l25 c25 k25
  refine ⟨PySem.W.fnOf "law" "law" (defArgs s_law) (defBody s_law) (defScope s_law) .none kV25 dc25 pm25 an25 cd25 ct25, fun s v => .of_eq rfl, fun base _ _ => ?_⟩
  have c_is_whole : Cal l.prog w K mg base "is_whole" 1 ["thing"] (spWhole K) := ⟨f0, _, PySem.W.mg_of X G a0, k0, b0, ok_whole F0 B⟩
  have c_greatest_part : Cal l.prog w K mg base "greatest_part" 1 ["a", "b"] spGcd := ⟨f1, _, PySem.W.mg_of X G a1, k1, b1, ok_gcd F1⟩
  have c_walk_ring : Cal l.prog w K mg base "walk_ring" 1 ["p", "first"] spRing := ⟨f2, _, PySem.W.mg_of X G a2, k2, b2, ok_ring F2⟩
  have c_walk_rings : Cal l.prog w K mg base "walk_rings" 2 ["p"] spRings := ⟨f3, _, PySem.W.mg_of X G a3, k3, b3, ok_rings F3 B c_walk_ring⟩
  have c_send_along : Cal l.prog w K mg base "send_along" 1 ["target", "ring", "steps"] spSend := ⟨f4, _, PySem.W.mg_of X G a4, k4, b4, ok_send F4 B⟩
  have c_is_turn : Cal l.prog w K mg base "is_turn" 2 ["thing"] spIsTurn := ⟨f5, _, PySem.W.mg_of X G a5, k5, b5, ok_isTurn F5 B mt c_is_whole⟩
  have c_must_be_turn : Cal l.prog w K mg base "must_be_turn" 3 ["thing"] spMust := ⟨f6, _, PySem.W.mg_of X G a6, k6, b6, ok_must F6 c_is_turn⟩
  have c_must_fit : Cal l.prog w K mg base "must_fit" 1 ["p", "q"] (spFit K) := ⟨f7, _, PySem.W.mg_of X G a7, k7, b7, ok_fit F7 B⟩
  have c_put_behind : Cal l.prog w K mg base "put_behind" 4 ["p", "q"] spBehind := ⟨f8, _, PySem.W.mg_of X G a8, k8, b8, ok_behind F8 c_must_be_turn c_must_fit⟩
  have c_power_of : Cal l.prog w K mg base "power_of" 4 ["p", "k"] spPower := ⟨f9, _, PySem.W.mg_of X G a9, k9, b9, ok_power F9 B c_must_be_turn c_walk_rings c_send_along⟩
  have c_way_back : Cal l.prog w K mg base "way_back" 5 ["p"] spBack := ⟨f10, _, PySem.W.mg_of X G a10, k10, b10, ok_back F10 c_power_of⟩
  have c_rounds_of : Cal l.prog w K mg base "rounds_of" 4 ["p"] spRings := ⟨f11, _, PySem.W.mg_of X G a11, k11, b11, ok_roundsOf F11 c_must_be_turn c_walk_rings⟩
  have c_kind_of : Cal l.prog w K mg base "kind_of" 5 ["p"] spKind := ⟨f12, _, PySem.W.mg_of X G a12, k12, b12, ok_kind F12 B B.sorted c_rounds_of⟩
  have c_home_of : Cal l.prog w K mg base "home_of" 6 ["p"] spHome := ⟨f13, _, PySem.W.mg_of X G a13, k13, b13, ok_home F13 c_kind_of c_greatest_part⟩
  have c_are_filled_lists : Cal l.prog w K mg base "are_filled_lists" 1 ["rounds"] spFilled := ⟨f14, _, PySem.W.mg_of X G a14, k14, b14, ok_filled F14 B⟩
  have c_things_in : Cal l.prog w K mg base "things_in" 1 ["rounds"] spThings := ⟨f15, _, PySem.W.mg_of X G a15, k15, b15, ok_things F15⟩
  have c_from_rounds : Cal l.prog w K mg base "from_rounds" 3 ["rounds"] spFrom := ⟨f16, _, PySem.W.mg_of X G a16, k16, b16, ok_from F16 c_are_filled_lists c_things_in c_is_turn c_send_along⟩
  have c_law_pool : Cal l.prog w K mg base "_law_pool" 1 ["script", "k"] (spPool K) := ⟨f17, _, PySem.W.mg_of X G a17, k17, b17, ok_pool F17 B⟩
  have c_law_take : Cal l.prog w K mg base "_law_take" 1 ["pool", "many"] spTake := ⟨f18, _, PySem.W.mg_of X G a18, k18, b18, ok_take F18⟩
  have c_law_mixed_up : Cal l.prog w K mg base "_law_mixed_up" 2 ["pool", "things"] (spMixed K) := ⟨f19, _, PySem.W.mg_of X G a19, k19, b19, ok_mixed F19 B c_law_take⟩
  have c_law_by_lengths : Cal l.prog w K mg base "_law_by_lengths" 3 ["pool", "lengths"] spByLen := ⟨f20, _, PySem.W.mg_of X G a20, k20, b20, ok_byLen F20 B c_law_mixed_up⟩
  have c_law_lengths : Cal l.prog w K mg base "_law_lengths" 2 ["pool", "many"] spLengths := ⟨f21, _, PySem.W.mg_of X G a21, k21, b21, ok_lengths F21 B c_law_take⟩
  have c_law_turn : Cal l.prog w K mg base "_law_turn" 4 ["pool", "most"] spTurn := ⟨f22, _, PySem.W.mg_of X G a22, k22, b22, ok_turn F22 B c_law_take c_law_mixed_up c_law_by_lengths c_law_lengths⟩
  have c_law_begun : Cal l.prog w K mg base "_law_begun" 1 ["one"] spBegun := ⟨f23, _, PySem.W.mg_of X G a23, k23, b23, ok_law_begun F23 B⟩
  have c_law_turned_rounds : Cal l.prog w K mg base "_law_turned_rounds" 3 ["pool", "rounds"] spTurned := ⟨f24, _, PySem.W.mg_of X G a24, k24, b24, ok_law_turned_rounds F24 B c_law_mixed_up c_law_take⟩
  exact ok_law F25 B c_law_pool c_law_turn c_rounds_of c_from_rounds c_law_turned_rounds c_way_back c_law_begun c_kind_of c_law_mixed_up c_put_behind c_home_of c_power_of c_law_take
theorem walk {l : PySem.W.OpenLaw} {q : Program} {loose : List Str} {XP : (Str → Option Value) → Heap → Prop} {YP : World → Heap → Prop} {d : DefRec} {K : Params → PySem.W.Frag} (hn : l.most = some 63) (hdf : d.params.defaults = [])
    (hY : ∀ (w : World) (h : Heap), YP w h → (K w.params).In h)
    (F : ∀ (w : World) (mg : Str → Option Value) (fa : Addr) (h : Heap), (K w.params).In h → h.Ns mainGlobals mg → mg d.name = some (.ref fa) →
      ∃ fd : FuncData, (∀ (s : Shared) (u : Value), BindsTo s fd ⟨[u], []⟩ [("script", u)]) ∧ ∀ base : Heap, (K w.params).In base → base.Ns mainGlobals mg → FnOk l.prog w (K w.params) mg base CX0 7 fa fd ["script"] (spLaw (K w.params))) :
    PySem.W.WalkO q loose XP YP l.row.toRowW d [] (fun f vs => PySem.call f vs) :=
  L2.walk_of (n := 63) (k := 7) (x := "script") (CX := fun _ => CX0) (sp := fun w => spLaw (K w.params)) hn (by decide) hdf ⟨rfl, by decide, by decide, rfl⟩ hY F (fun _ _ a ns hl _ hS => ⟨a, ns, rfl, hS, hl, fun _ => rfl⟩) fun _ _ _ _ _ z => z
end My
open PySem PySem.W PyProof.Rows
set_option maxRecDepth 100000 in
set_option maxHeartbeats 0 in
theorem PySem.Challenge.cw_turnroots_k12_whole_rounds_there_and_bac_holds : PySem.Challenge.rw_turnroots_k12_whole_rounds_there_and_bac.Holds := by
  w_on; o_law; k_head; (case hw => w_witness2)
  k_fill
  refine My.walk (l := PySem.Challenge.rw_turnroots_k12_whole_rounds_there_and_bac) rfl rfl (fun w h Y => PySem.W.kIn_of Y) ?F
  case F =>
    intro w mg fa h KX G hmg
    refine' My.all_mk KX G hmg ?a0 ?l0 ?c0 ?k0 ?a1 ?l1 ?c1 ?k1 ?a2 ?l2 ?c2 ?k2 ?a3 ?l3 ?c3 ?k3 ?a4 ?l4 ?c4 ?k4 ?a5 ?l5 ?c5 ?k5 ?a6 ?l6 ?c6 ?k6 ?a7 ?l7 ?c7 ?k7 ?a8 ?l8 ?c8 ?k8 ?a9 ?l9 ?c9 ?k9 ?a10 ?l10 ?c10 ?k10 ?a11 ?l11 ?c11 ?k11 ?a12 ?l12 ?c12 ?k12 ?a13 ?l13 ?c13 ?k13 ?a14 ?l14 ?c14 ?k14 ?a15 ?l15 ?c15 ?k15 ?a16 ?l16 ?c16 ?k16 ?a17 ?l17 ?c17 ?k17 ?a18 ?l18 ?c18 ?k18 ?a19 ?l19 ?c19 ?k19 ?a20 ?l20 ?c20 ?k20 ?a21 ?l21 ?c21 ?k21 ?a22 ?l22 ?c22 ?k22 ?a23 ?l23 ?c23 ?k23 ?a24 ?l24 ?c24 ?k24 ?a25 ?l25 ?c25 ?k25 ?m0 ?z0 ?z1 ?z2 ?z3 ?z4 ?z5 ?z6 ?z7 ?z8 ?z9 ?z10 ?z11 ?z12 ?z13 ?z14 ?z15 ?z16 ?z17 ?z18 ?z19
    (case a0 => k_is)
    (case l0 => k_is)
    (case c0 => k_is)
    (case k0 => k_is)
    (case a1 => k_is)
    (case l1 => k_is)
    (case c1 => k_is)
    (case k1 => k_is)
    (case a2 => k_is)
    (case l2 => k_is)
    (case c2 => k_is)
    (case k2 => k_is)
    (case a3 => k_is)
    (case l3 => k_is)
    (case c3 => k_is)
    (case k3 => k_is)
    (case a4 => k_is)
    (case l4 => k_is)
    (case c4 => k_is)
    (case k4 => k_is)
    (case a5 => k_is)
    (case l5 => k_is)
    (case c5 => k_is)
    (case k5 => k_is)
    (case a6 => k_is)
    (case l6 => k_is)
    (case c6 => k_is)
    (case k6 => k_is)
    (case a7 => k_is)
    (case l7 => k_is)
    (case c7 => k_is)
    (case k7 => k_is)
    (case a8 => k_is)
    (case l8 => k_is)
    (case c8 => k_is)
    (case k8 => k_is)
    (case a9 => k_is)
    (case l9 => k_is)
    (case c9 => k_is)
    (case k9 => k_is)
    (case a10 => k_is)
    (case l10 => k_is)
    (case c10 => k_is)
    (case k10 => k_is)
    (case a11 => k_is)
    (case l11 => k_is)
    (case c11 => k_is)
    (case k11 => k_is)
    (case a12 => k_is)
    (case l12 => k_is)
    (case c12 => k_is)
    (case k12 => k_is)
    (case a13 => k_is)
    (case l13 => k_is)
    (case c13 => k_is)
    (case k13 => k_is)
    (case a14 => k_is)
    (case l14 => k_is)
    (case c14 => k_is)
    (case k14 => k_is)
    (case a15 => k_is)
    (case l15 => k_is)
    (case c15 => k_is)
    (case k15 => k_is)
    (case a16 => k_is)
    (case l16 => k_is)
    (case c16 => k_is)
    (case k16 => k_is)
    (case a17 => k_is)
    (case l17 => k_is)
    (case c17 => k_is)
    (case k17 => k_is)
    (case a18 => k_is)
    (case l18 => k_is)
    (case c18 => k_is)
    (case k18 => k_is)
    (case a19 => k_is)
    (case l19 => k_is)
    (case c19 => k_is)
    (case k19 => k_is)
    (case a20 => k_is)
    (case l20 => k_is)
    (case c20 => k_is)
    (case k20 => k_is)
    (case a21 => k_is)
    (case l21 => k_is)
    (case c21 => k_is)
    (case k21 => k_is)
    (case a22 => k_is)
    (case l22 => k_is)
    (case c22 => k_is)
    (case k22 => k_is)
    (case a23 => k_is)
    (case l23 => k_is)
    (case c23 => k_is)
    (case k23 => k_is)
    (case a24 => k_is)
    (case l24 => k_is)
    (case c24 => k_is)
    (case k24 => k_is)
    (case a25 => k_is)
    (case l25 => k_is)
    (case c25 => k_is)
    (case k25 => k_is)
    (case m0 => k_is)
    (case z0 => k_is)
    (case z1 => k_is)
    (case z2 => k_is)
    (case z3 => k_is)
    (case z4 => k_is)
    (case z5 => k_is)
    (case z6 => k_is)
    (case z7 => k_is)
    (case z8 => k_is)
    (case z9 => k_is)
    (case z10 => k_is)
    (case z11 => k_is)
    (case z12 => k_is)
    (case z13 => k_is)
    (case z14 => k_is)
    (case z15 => k_is)
    (case z16 => k_is)
    (case z17 => k_is)
    (case z18 => k_is)
    (case z19 => k_is)
#print axioms PySem.Challenge.cw_turnroots_k12_whole_rounds_there_and_bac_holds
