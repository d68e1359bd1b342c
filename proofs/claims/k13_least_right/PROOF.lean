import PyProof.Rows.All
import Wide.All
import OpenK.AllK
import Wide.FinOn
import Lean
import PyProof.EqAt
import PyProof.EqKinds
import PyProof.TupleCall
import PyProof.NeKinds
import PyProof.EnumMake
import PyProof.Rows.SeqMore2
import PyProof.ZipIter
import PyProof.Rows.SortRev
import PyProof.Rows.SortWalk
import PyProof.Rows.CallKwBuiltin
import PyProof.DictIter
import PyProof.DictWalks
import PyProof.MeetsDict
import PyProof.Conv_int_bool
import PyProof.EqAt
import PyProof.CollectWalk
import PyProof.Rows.SortShell
import PyProof.Rows.Range3
import PySem.Challenge.RW_turnroots_k13_least_right
set_option Elab.async false
set_option linter.all false
set_option maxRecDepth 100000
set_option maxHeartbeats 8000000
set_option Elab.async false
set_option linter.all false
set_option maxRecDepth 100000
namespace L2
open PySem PySem.Spec PyProof.Rows
abbrev Key := Sum Int Str
def keyIs : Key → Value → Bool
  | .inl k, v => Value.isInt k v
  | .inr x, v => Value.isStrOf x v
def keyH (w : World) : Key → Int
  | .inl k => hashInt k
  | .inr x => hashStr w x
theorem keyIs_shape : ∀ {k : Key} {v : Value}, keyIs k v = true → (∃ i t, k = Sum.inl i ∧ v = Value.int i t) ∨ (∃ x t, k = Sum.inr x ∧ v = Value.str x t)
  | .inl i, v, h => by
    obtain ⟨t, e⟩ := Value.isInt_shape (k := i) (v := v) h
    exact .inl ⟨i, t, rfl, e⟩
  | .inr x, v, h => by
    obtain ⟨t, e⟩ := Value.isStrOf_shape (x := x) (v := v) h
    exact .inr ⟨x, t, rfl, e⟩
theorem key_ll (a b : Int) : decide ((Sum.inl a : Key) = Sum.inl b) = (a == b) := by
  by_cases e : a = b
  · subst e; simp
  · have h : ¬ (Sum.inl a : Key) = Sum.inl b := fun q => e (Sum.inl.inj q)
    rw [decide_eq_false h]
    exact (beq_eq_false_iff_ne.mpr e).symm
theorem key_rr (a b : Str) : decide ((Sum.inr a : Key) = Sum.inr b) = decide (a = b) := by
  by_cases e : a = b
  · subst e; simp
  · have h : ¬ (Sum.inr a : Key) = Sum.inr b := fun q => e (Sum.inr.inj q)
    rw [decide_eq_false h, decide_eq_false e]
theorem key_lr (a : Int) (b : Str) : decide ((Sum.inl a : Key) = Sum.inr b) = false := decide_eq_false (fun q => nomatch q)
theorem key_rl (a : Str) (b : Int) : decide ((Sum.inr a : Key) = Sum.inl b) = false := decide_eq_false (fun q => nomatch q)
def mixKind (prog : Program) (w : World) : PySem.KeyKind prog w Key where
  is := keyIs
  hash := keyH w
  inj := fun v a b ha hb => by
    rcases keyIs_shape ha with ⟨i, t, rfl, rfl⟩ | ⟨x, t, rfl, rfl⟩
    · rcases keyIs_shape hb with ⟨j, u, rfl, e⟩ | ⟨y, u, rfl, e⟩
      · injection e with e1 _; rw [e1]
      · exact nomatch e
    · rcases keyIs_shape hb with ⟨j, u, rfl, e⟩ | ⟨y, u, rfl, e⟩
      · exact nomatch e
      · injection e with e1 _; rw [e1]
  byValue := fun k v h => by
    rcases keyIs_shape h with ⟨i, t, rfl, rfl⟩ | ⟨x, t, rfl, rfl⟩ <;> rfl
  pyHash := fun hv h => by
    rcases keyIs_shape hv with ⟨i, t, rfl, rfl⟩ | ⟨x, t, rfl, rfl⟩
    · exact wpAny_pyHash_int h
    · exact wpAny_pyHash_str h
  eqBool := fun hu hv h => by
    rcases keyIs_shape hu with ⟨i, t, rfl, rfl⟩ | ⟨x, t, rfl, rfl⟩
    · rcases keyIs_shape hv with ⟨j, u, rfl, rfl⟩ | ⟨y, u, rfl, rfl⟩
      · rw [key_ll] at h; exact wpAny_eqBool_int h
      · rw [key_lr] at h; exact SeqAt.EqAt.int_str i t y u _ _ _ _ h
    · rcases keyIs_shape hv with ⟨j, u, rfl, rfl⟩ | ⟨y, u, rfl, rfl⟩
      · rw [key_rl] at h; exact SeqAt.EqAt.str_int x t j u _ _ _ _ h
      · rw [key_rr] at h; exact wpAny_eqBool_str h
  «strs» := fun k x t v h => by
    rcases keyIs_shape h with ⟨i, u, rfl, e⟩ | ⟨y, u, rfl, e⟩
    · exact nomatch e
    · injection e with e1 _
      subst e1
      cases v <;> rfl
end L2
namespace L2
open PySem PySem.Spec PyProof.Rows
inductive V where
  | non | bl (b : Bool) | int (i : Int) | str (x : Str) | byt (b : Array UInt8) | flt (b : UInt64) | ref (a : Addr) | ty (n : String)
  deriving DecidableEq
def RelV : V → Value → Prop
  | .non, u => u = Value.none
  | .bl b, u => u = Value.bool b
  | .int i, u => ∃ t, u = Value.int i t
  | .str x, u => ∃ t, u = Value.str x t
  | .byt b, u => ∃ t, u = Value.bytes b t
  | .flt b, u => ∃ t, u = Value.float b t
  | .ref a, u => u = Value.ref a
  | .ty n, u => u = Value.type n
abbrev Vals : List V → List Value → Prop := Paired RelV
theorem Vals.length {xs : List V} {us : List Value} (r : Vals xs us) : xs.length = us.length := Paired.length r
theorem Vals.get : ∀ {xs : List V} {us : List Value} {i : Nat} {x : V}, Vals xs us → xs[i]? = some x → ∃ u, us[i]? = some u ∧ RelV x u
  | _, _, _, _, .nil, e => by simp at e
  | _, _, 0, _, .cons r _, e => by simp at e; subst e; exact ⟨_, rfl, r⟩
  | _, _, i + 1, x, .cons _ t, e => by
    obtain ⟨u, h1, h2⟩ := Vals.get (i := i) (x := x) t (by simpa using e)
    exact ⟨u, by simpa using h1, h2⟩
theorem Vals.append : ∀ {xs ys : List V} {us ws : List Value}, Vals xs us → Vals ys ws → Vals (xs ++ ys) (us ++ ws)
  | _, _, _, _, .nil, s => s
  | _, _, _, _, .cons r t, s => .cons r (Vals.append t s)
def RelO : Option V → Option Value → Prop
  | some v, some u => RelV v u
  | none, none => True
  | _, _ => False
def KV {κ : Type} : List (κ × V) → List (κ × Value) → Prop := Paired fun (p : κ × V) (q : κ × Value) => p.1 = q.1 ∧ RelV p.2 q.2
def kV : Key → V
  | .inl i => .int i
  | .inr x => .str x
inductive HO where
  | lst (xs : List V)
  | tup (xs : List V)
  | dK (kvs : List (Key × V)) | dT (kvs : List (List Key × V))
  | set (S : Int → Bool) (n : Nat)
  | ins (C dx : Addr) (fs : List (Str × V))
  | own (x : Addr)
  | xd (fs : List (Str × V))
  | met (f x : Addr)
  | rng (lo hi : Int)
  | frz (o : Obj) (u : HO)
  | tbl (ps : Array Value)
  | ext (φ : Heap → Prop)
abbrev Hp := Addr → Option HO
def upd (H : Hp) (a : Addr) (o : HO) : Hp := fun b => if b = a then some o else H b
theorem upd_same {H : Hp} {a : Addr} {o : HO} : upd H a o a = some o := by unfold upd; rw [if_pos rfl]
theorem upd_ne {H : Hp} {a b : Addr} {o : HO} (h : b ≠ a) : upd H a o b = H b := by unfold upd; rw [if_neg h]
theorem ne_of_none {H : Hp} {a b : Addr} {o : HO} (h : H a = some o) (h' : H b = none) : a ≠ b := by
  intro e; subst e; rw [h] at h'; cases h'
section
variable (P : Program) (w : World)
def ObjOk (H : Hp) (h : Heap) (a : Addr) : HO → Prop
  | .lst xs => xs.length ≤ sizeLine ∧ ∃ (its : List Value) (n : Nat), Vals xs its ∧ h.get? a = some { cls := .type "list", data := .seq its.toArray n }
  | .tup xs => xs.length ≤ sizeLine ∧ ∃ its : List Value, Vals xs its ∧ IsTup h a its.toArray
  | .dK kvs => kvs.length ≤ sizeLine ∧ (a == sysModules) = false ∧ ∃ vs, KV kvs vs ∧ h.DictOf (mixKind P w) a vs
  | .dT kvs => kvs.length ≤ sizeLine ∧ (a == sysModules) = false ∧ ∃ xs : List (List Key × Addr × Value),
      Paired (fun (p : List Key × V) (q : List Key × Addr × Value) => p.1 = q.1 ∧ H q.2.1 = some (.tup (p.1.map kV)) ∧ RelV p.2 q.2.2) kvs xs ∧
      ∃ o es ep, h.get? a = some o ∧ o.ExactDict ∧ o.data = .dict es ep ∧ es.toList = xs.map (entryOfKey (tupleKind (mixKind P w))) ∧ (xs.map (·.1)).Nodup
  | .set S n => h.SetOf (intKind P w) a S n
  | .ins C dx fs => H dx = some (.own a) ∧ fs.length ≤ 1000 ∧ dx ≠ a ∧ h.get? a = some (PySem.W.instObj C dx) ∧
      ∃ mA, h.Ns1 dx mA ∧ (∀ f, RelO (fs.lookup f) (mA f)) ∧ PySem.Within mA (fs.map (·.1))
  | .own _ => ∃ o, h.get? a = some o
  | .xd fs => ∃ mA, h.Ns1 a mA ∧ ∀ f, RelO (fs.lookup f) (mA f)
  | .rng lo hi => ∃ t u v, h.get? a = some { cls := .type "range", data := .fields #[.int lo t, .int hi u, .int 1 v] }
  | .frz o u => h.get? a = some o ∧ ObjOk H h a u
  | .tbl ps => h.get? a = some { cls := .none, data := .fields ps }
  | .met f x => h.get? a = some (PySem.W.methodObj (.ref f) (.ref x))
  | .ext φ => φ h ∧ (∃ o, h.get? a = some o) ∧ ∀ h1 h2 : Heap, φ h1 → (∀ o, h1.get? a = some o → h2.get? a = some o) → φ h2
def HOk (H : Hp) (h : Heap) : Prop := ∀ a o, H a = some o → ObjOk P w H h a o
end
section
variable {P : Program} {w : World} {H H' : Hp} {h h' : Heap} {a : Addr} {o : HO}
theorem ObjOk.lt (x : ObjOk P w H h a o) : a < h.objs.size := by
  cases o with
  | lst xs => obtain ⟨_, _, _, _, e⟩ := x; exact Heap.lt_size e
  | tup xs => obtain ⟨_, _, _, p⟩ := x; exact p.lt
  | dK kvs => obtain ⟨_, _, _, _, o, _, _, e, _⟩ := x; exact Heap.lt_size e
  | dT kvs => obtain ⟨_, _, _, _, o, _, _, e, _⟩ := x; exact Heap.lt_size e
  | set S n => obtain ⟨o, _, _, _, e, _⟩ := x; exact Heap.lt_size e
  | ins C dx fs => obtain ⟨_, _, _, e, _⟩ := x; exact Heap.lt_size e
  | own y => obtain ⟨_, e⟩ := x; exact Heap.lt_size e
  | xd fs => obtain ⟨_, ⟨_, _, _, e, _⟩, _⟩ := x; exact Heap.lt_size e
  | rng lo hi => obtain ⟨_, _, _, e⟩ := x; exact Heap.lt_size e
  | frz ob u => obtain ⟨e, _⟩ := x; exact Heap.lt_size e
  | tbl ps => exact Heap.lt_size (show h.get? a = some _ from x)
  | met f y => exact Heap.lt_size (show h.get? a = some _ from x)
  | ext φ => obtain ⟨_, ⟨_, e⟩, _⟩ := x; exact Heap.lt_size e
theorem Paired.mapP {α β : Type} {F G : α → β → Prop} : ∀ {l₁ : List α} {l₂ : List β}, Paired F l₁ l₂ → (∀ a b, F a b → G a b) → Paired G l₁ l₂
  | _, _, .nil, _ => .nil
  | _, _, .cons r t, f => .cons (f _ _ r) (Paired.mapP t f)
theorem ObjOk.stay (x : ObjOk P w H h a o) (k : ∀ b u, (b = a ∨ H b = some (.own a)) → h.get? b = some u → h'.get? b = some u)
    (ho : ∀ b, H b = some (.own a) → H' b = some (.own a)) (ht : ∀ b xs, H b = some (.tup xs) → H' b = some (.tup xs)) : ObjOk P w H' h' a o := by
  induction o with
  | lst xs => obtain ⟨z, its, n, r, e⟩ := x; exact ⟨z, its, n, r, k _ _ (.inl rfl) e⟩
  | tup xs => obtain ⟨z, its, r, ob, e, c⟩ := x; exact ⟨z, its, r, ob, k _ _ (.inl rfl) e, c⟩
  | dK kvs => obtain ⟨z, y, vs, r, ob, es, ep, e, c⟩ := x; exact ⟨z, y, vs, r, ob, es, ep, k _ _ (.inl rfl) e, c⟩
  | dT kvs =>
    obtain ⟨z, y, xs, r, ob, es, ep, e, c⟩ := x
    exact ⟨z, y, xs, Paired.mapP r fun p q z => ⟨z.1, ht _ _ z.2.1, z.2.2⟩, ob, es, ep, k _ _ (.inl rfl) e, c⟩
  | set S n => obtain ⟨ob, es, ep, t, e, c⟩ := x; exact ⟨ob, es, ep, t, k _ _ (.inl rfl) e, c⟩
  | ins C dx fs =>
    obtain ⟨d, z, ne, e, mA, ⟨od, es, ep, e2, c⟩, r⟩ := x
    exact ⟨ho _ d, z, ne, k _ _ (.inl rfl) e, mA, ⟨od, es, ep, k _ _ (.inr d) e2, c⟩, r⟩
  | own y => obtain ⟨ob, e⟩ := x; exact ⟨ob, k _ _ (.inl rfl) e⟩
  | xd fs => obtain ⟨mA, ⟨od, es, ep, e, c⟩, r⟩ := x; exact ⟨mA, ⟨od, es, ep, k _ _ (.inl rfl) e, c⟩, r⟩
  | rng lo hi => obtain ⟨t, u, v, e⟩ := x; exact ⟨t, u, v, k _ _ (.inl rfl) e⟩
  | frz ob u ih => obtain ⟨e, q⟩ := x; exact ⟨k _ _ (.inl rfl) e, ih q⟩
  | tbl ps =>
    have e : h.get? a = some { cls := .none, data := .fields ps } := x
    show h'.get? a = some { cls := .none, data := .fields ps }
    exact k a _ (.inl rfl) e
  | met f y =>
    have e : h.get? a = some (PySem.W.methodObj (.ref f) (.ref y)) := x
    show h'.get? a = some (PySem.W.methodObj (.ref f) (.ref y))
    exact k a _ (.inl rfl) e
  | ext φ => obtain ⟨p, ⟨o, e⟩, st⟩ := x; exact ⟨st _ _ p fun o q => k _ _ (.inl rfl) q, ⟨o, k _ _ (.inl rfl) e⟩, st⟩
theorem HOk.lt (x : HOk P w H h) (e : H a = some o) : a < h.objs.size := (x a o e).lt
theorem HOk.fresh (x : HOk P w H h) (e : h.objs.size ≤ a) : H a = none := by
  cases q : H a with
  | none => rfl
  | some u => exact absurd (Nat.lt_of_lt_of_le (x.lt q) e) (Nat.lt_irrefl _)
theorem HOk.kept (x : HOk P w H h) (k : ∀ b u, h.get? b = some u → h'.get? b = some u) : HOk P w H h' := fun a o e =>
  (x a o e).stay (fun b u _ q => k b u q) (fun _ q => q) fun _ _ q => q
theorem HOk.laid (x : HOk P w H h) (k : ∀ b u, h.get? b = some u → h'.get? b = some u) (hp : h.objs.size ≤ a) (new : ObjOk P w (upd H a o) h' a o) : HOk P w (upd H a o) h' := fun b u e => by
  have hn := x.fresh hp
  by_cases hb : b = a
  · subst hb; rw [upd_same] at e; cases e; exact new
  · rw [upd_ne hb] at e
    exact (x b u e).stay (fun c v _ q => k c v q) (fun c q => by rw [upd_ne (ne_of_none q hn)]; exact q) fun c xs q => by rw [upd_ne (ne_of_none q hn)]; exact q
end
def Rd (H : Hp) (a : Addr) (u : HO) : Prop := H a = some u ∨ ∃ o, H a = some (.frz o u)
theorem Rd.ok {P : Program} {w : World} {H : Hp} {h : Heap} {a : Addr} {u : HO} (r : Rd H a u) (x : HOk P w H h) : ObjOk P w H h a u := by
  rcases r with r | ⟨o, r⟩
  · exact x a u r
  · obtain ⟨_, q⟩ := x a _ r
    exact q
def Mut : Option HO → Prop
  | some (.lst _) => True
  | some (.dK _) => True
  | some (.dT _) => True
  | some (.set _ _) => True
  | some (.ins _ _ _) => True
  | some (.ext _) => True
  | _ => False
section
variable {P : Program} {w : World} {H : Hp} {h h' : Heap} {x e : Addr} {o' : HO}
theorem HOk.write (ok : HOk P w H h) (mu : Mut (H x)) (he : e = x ∨ H e = some (.own x)) (k : ∀ b u, b ≠ e → h.get? b = some u → h'.get? b = some u) (heo : ∃ u, h'.get? e = some u)
    (new : ObjOk P w (upd H x o') h' x o') : HOk P w (upd H x o') h' := fun b u q => by
  have nown : ∀ c y, H c = some (.own y) → c ≠ x := fun c y r z => by subst z; rw [r] at mu; exact mu
  have ntup : ∀ c xs, H c = some (.tup xs) → c ≠ x := fun c xs r z => by subst z; rw [r] at mu; exact mu
  by_cases hb : b = x
  · subst hb; rw [upd_same] at q; cases q; exact new
  · rw [upd_ne hb] at q
    by_cases hbe : b = e
    · have q' : H b = some (.own x) := by
        rcases he with z | z
        · exact absurd (hbe.trans z) hb
        · rw [hbe]; exact z
      rw [q] at q'; cases q'
      obtain ⟨v, hv⟩ := heo
      exact ⟨v, by rw [hbe]; exact hv⟩
    · refine (ok b u q).stay (fun c v hc r => k c v ?_ r) (fun c r => by rw [upd_ne (nown c b r)]; exact r) fun c xs r => by rw [upd_ne (ntup c xs r)]; exact r
      rcases hc with rfl | hc
      · exact hbe
      · rintro rfl
        rcases he with z | z
        · exact nown c b hc z
        · rw [hc] at z; cases z; exact hb rfl
end
structure Un (fs ex : List Addr) (H H' : Hp) (h h' : Heap) : Prop where
  keep : ∀ b o, h.get? b = some o → H b = none → b ∉ fs → b ∉ ex → h'.get? b = some o
  slot : ∀ b o, h.get? b = some o → H b = none → b ∈ fs → b ∉ ex → ∃ sl, h'.get? b = some { o with slots := sl }
  free : ∀ b o, h.get? b = some o → H b = none → b ∉ ex → H' b = none
  there : ∀ b o, h.get? b = some o → b ∉ ex → ∃ o', h'.get? b = some o'
  tups : ∀ b xs, H b = some (.tup xs) → H' b = some (.tup xs)
  frzs : ∀ b o u, H b = some (.frz o u) → H' b = some (.frz o u)
  tbls : ∀ b ps, H b = some (.tbl ps) → ∃ more, H' b = some (.tbl (ps ++ more))
section
variable {fs fs' ex ex' : List Addr} {H H1 H2 : Hp} {h h1 h2 h' : Heap} {a x e : Addr} {o : HO}
theorem Un.any (u : Un fs ex H H1 h h1) {b : Addr} {ob : Obj} (q : h.get? b = some ob) (n : H b = none) (hx : b ∉ ex) : ∃ sl, h1.get? b = some { ob with slots := sl } := by
  by_cases hb : b ∈ fs
  · exact u.slot b ob q n hb hx
  · exact ⟨ob.slots, u.keep b ob q n hb hx⟩
theorem Un.kept (k : ∀ b u, h.get? b = some u → h'.get? b = some u) : Un fs ex H H h h' :=
  ⟨fun b ob q _ _ _ => k b ob q, fun b ob q _ _ _ => ⟨ob.slots, k b ob q⟩, fun _ _ _ n _ => n, fun b ob q _ => ⟨ob, k b ob q⟩, fun _ _ q => q, fun _ _ _ q => q, fun _ ps q => ⟨#[], by rw [q]; simp⟩⟩
theorem Un.refl : Un fs ex H H h h := Un.kept fun _ _ q => q
theorem Un.laid (k : ∀ b u, h.get? b = some u → h'.get? b = some u) (hp : h.objs.size ≤ a) (hn : H a = none) : Un fs ex H (upd H a o) h h' where
  keep := fun b u q _ _ _ => k b u q
  slot := fun b u q _ _ _ => ⟨u.slots, k b u q⟩
  free := fun b u q n _ => by rw [upd_ne (Nat.ne_of_lt (Nat.lt_of_lt_of_le (Heap.lt_size q) hp))]; exact n
  there := fun b u q _ => ⟨u, k b u q⟩
  tups := fun b xs q => by rw [upd_ne (ne_of_none q hn)]; exact q
  frzs := fun b u xs q => by rw [upd_ne (ne_of_none q hn)]; exact q
  tbls := fun b ps q => ⟨#[], by rw [upd_ne (ne_of_none q hn), q]; simp⟩
theorem Un.write (mu : Mut (H x)) (he : e = x ∨ H e = some (.own x)) (k : ∀ b u, b ≠ e → h.get? b = some u → h'.get? b = some u) (heo : ∃ u, h'.get? e = some u) : Un fs ex H (upd H x o) h h' := by
  have hx : ∀ b, H b = none → b ≠ x := fun b n z => by subst z; rw [n] at mu; exact mu
  have hb : ∀ b, H b = none → b ≠ e := fun b n z => by
    subst z
    rcases he with r | r
    · exact hx b n r
    · rw [n] at r; cases r
  have hm : ∀ b u, H b = some u → ¬ Mut (some u) → b ≠ x := fun b u q nm z => by subst z; rw [q] at mu; exact nm mu
  refine ⟨fun b u q n _ _ => k b u (hb b n) q, fun b u q n _ _ => ⟨u.slots, k b u (hb b n) q⟩, fun b u q n _ => by rw [upd_ne (hx b n)]; exact n, fun b u q _ => ?_,
    fun b xs q => by rw [upd_ne (hm b _ q fun z => z)]; exact q, fun b u xs q => by rw [upd_ne (hm b _ q fun z => z)]; exact q, fun b ps q => ⟨#[], by rw [upd_ne (hm b _ q fun z => z), q]; simp⟩⟩
  by_cases hbe : b = e
  · subst hbe; exact heo
  · exact ⟨u, k b u hbe q⟩
end
def trk (h : Heap) (H : Hp) : List Addr := (List.range h.objs.size).filter fun a => (H a).isSome
def hidT (h : Heap) (H : Hp) : Heap := PySem.W.hideAll h (trk h H)
theorem hidT_size (h : Heap) (H : Hp) : (hidT h H).objs.size = h.objs.size := PySem.W.hideAll_size _ _
theorem hidT_get {h : Heap} {H : Hp} {b : Addr} {o : Obj} (e : h.get? b = some o) (n : H b = none) : (hidT h H).get? b = some o :=
  PySem.W.hideAll_get _ e fun hm => by
    have q : (H b).isSome = true := (List.mem_filter.mp hm).2
    rw [n] at q; simp at q
theorem of_hidT {h : Heap} {H : Hp} {b : Addr} {o : Obj} (e : (hidT h H).get? b = some o) : h.get? b = some o ∧ H b = none := by
  have e' : h.get? b = some o := PySem.W.of_hideAll (trk h H) e
  refine ⟨e', ?_⟩
  cases q : H b with
  | none => rfl
  | some x =>
    have hm : b ∈ trk h H := List.mem_filter.mpr ⟨List.mem_range.mpr (Heap.lt_size e'), by simp [q]⟩
    have z : (hidT h H).get? b = none := PySem.W.hideAll_none (trk h H) hm
    rw [z] at e; cases e
end L2
namespace L2
open PySem PySem.Spec PyProof.Rows
structure Mod (K : PySem.W.Frag) (mg : Str → Option Value) (base : Heap) : Prop where
  kin : K.In base
  glob : base.Ns mainGlobals mg
  blt : ∃ mb, base.Ns builtinsNs mb ∧ ∀ x : Str, x ≠ "__name__" → mb x = bootBuiltins x
  nolimit : base.NoLimit
structure Cx where
  prog : Program
  w : World
  K : PySem.W.Frag
  mg : Str → Option Value
  base : Heap
  A : Around
  N : List Str
  s₀ : Shared
  H₀ : Hp
  env : Env
  outer : List Env
  stack : List Env
  ex : List Addr
  fn : Str → Bool
  calm : Bool
  pn : List (Addr × Obj)
  xe : Value → Shared → Prop
def frs (l : List Env) : List Addr := l.filterMap (·.frame)
abbrev Cx.fs (X : Cx) : List Addr := frs X.outer
def Vis (sc : Scope) (x : Str) : Prop := sc.names.lookup x = some .local ∨ sc.names.lookup x = some .cell ∨ sc.names.lookup x = some .free
def Loc (sc : Scope) (x : Str) : Prop := sc.names.lookup x = some .local ∨ sc.names.lookup x = some .cell
def Look (env : Env) (h : Heap) (m : Str → Option Value) (x : Str) (u : Value) : Prop :=
  (env.kindOf x = some .local ∧ m x = some u) ∨ ((env.kindOf x = some .cell ∨ env.kindOf x = some .free) ∧ ∃ c, env.cells.lookup x = some c ∧ h.IsCell c (some u))
structure Cx.Ok (X : Cx) : Prop where
  mod : Mod X.K X.mg X.base
  kind : X.env.scope.kind = .function
  glob : X.env.globals = mainGlobals
  blt : X.env.builtins = builtinsNs
  above : X.s₀.heap.objs.size ≤ X.env.locals
  inj : ∀ x y c, X.env.cells.lookup x = some c → X.env.cells.lookup y = some c → x = y
  has : ∀ x, (X.env.kindOf x = some .cell ∨ X.env.kindOf x = some .free) → ∃ c, X.env.cells.lookup x = some c
  cab : ∀ x c, X.fn x = true → X.env.cells.lookup x = some c → X.s₀.heap.objs.size ≤ c
  hd : X.calm = true → X.A.handled = none
  frames : X.A.frames = some X.stack
  stk : X.stack = X.outer ∨ (X.stack = X.env :: X.outer ∧ X.env.frame = some X.env.locals)
  exf : ∀ b ∈ X.ex, b ≠ X.env.locals ∧ ∀ x c, X.env.cells.lookup x = some c → c ≠ b
  bs : ∀ b o, X.base.get? b = some o → X.s₀.heap.get? b = some o ∧ X.H₀ b = none
  bsz : X.base.objs.size ≤ X.s₀.heap.objs.size
  noex : ∀ b o, X.base.get? b = some o → b ∉ X.ex
  exfs : ∀ b ∈ X.ex, b ∉ X.fs
  funs : X.s₀.heap.FunFrames X.base X.outer
  frf : ∀ b ∈ X.fs, X.H₀ b = none
structure Inv (X : Cx) (pins : List (Addr × Obj)) (σ : List (Option V)) (H : Hp) (s : Shared) : Prop where
  ok : X.Ok
  os : s.os = X.s₀.os
  bare : AllBare s.gens
  base : Un X.fs X.ex X.H₀ H X.s₀.heap s.heap
  loc : ∃ m, s.heap.Ns X.env.locals m ∧ ∀ (i : Nat) (x : Str) (v : V), X.N[i]? = some x → σ[i]? = some (some v) → Vis X.env.scope x → ∃ u, RelV v u ∧ Look X.env s.heap m x u
  cell : ∀ x c, X.env.cells.lookup x = some c → ∃ v, s.heap.IsCell c v
  free : H X.env.locals = none
  freeC : ∀ x c, X.env.cells.lookup x = some c → H c = none
  pin : ∀ p ∈ X.pn ++ pins, s.heap.get? p.1 = some p.2 ∧ H p.1 = none ∧ p.1 ≠ X.env.locals ∧ p.1 ∉ X.fs ∧ ∀ v, p.2.data ≠ .cell v
  hok : HOk X.prog X.w H s.heap
  len : σ.length = X.N.length
section
variable {X : Cx} {pins : List (Addr × Obj)} {σ : List (Option V)} {H H' : Hp} {s : Shared} {h' : Heap}
theorem Cx.Ok.nofr (ok : X.Ok) {b : Addr} {o : Obj} (e : X.base.get? b = some o) : b ∉ X.fs := fun hb => by
  have := (ok.funs.mem hb).1
  rw [e] at this; cases this
theorem Inv.bs (I : Inv X pins σ H s) : ∀ b o, X.base.get? b = some o → s.heap.get? b = some o ∧ H b = none := fun b o e =>
  ⟨I.base.keep b o (I.ok.bs b o e).1 (I.ok.bs b o e).2 (I.ok.nofr e) (I.ok.noex b o e), I.base.free b o (I.ok.bs b o e).1 (I.ok.bs b o e).2 (I.ok.noex b o e)⟩
theorem Inv.bk (I : Inv X pins σ H s) : ∀ b o, X.base.get? b = some o → s.heap.get? b = some o := fun b o e => (I.bs b o e).1
theorem Inv.mod (I : Inv X pins σ H s) : Mod X.K X.mg X.base := I.ok.mod
theorem Inv.kIn (I : Inv X pins σ H s) : X.K.In s.heap := I.ok.mod.kin.keeps I.bk
theorem Inv.lt (I : Inv X pins σ H s) : X.env.locals < s.heap.objs.size := let ⟨_, hn, _⟩ := I.loc; hn.lt
theorem Inv.sz (I : Inv X pins σ H s) : X.s₀.heap.objs.size ≤ s.heap.objs.size := Nat.le_trans I.ok.above (Nat.le_of_lt I.lt)
theorem Inv.nofs (I : Inv X pins σ H s) {a : Addr} (h : s.heap.objs.size ≤ a) : a ∉ X.fs := fun hb => by
  obtain ⟨_, o, ho, _⟩ := I.ok.funs.mem hb
  exact absurd (Nat.lt_of_lt_of_le (Heap.lt_size ho) (Nat.le_trans I.sz h)) (Nat.lt_irrefl _)
theorem Inv.cne (I : Inv X pins σ H s) : ∀ x c, X.env.cells.lookup x = some c → c ≠ X.env.locals := fun x c e z => by
  obtain ⟨v, o, ho, hd⟩ := I.cell x c e
  obtain ⟨m, ⟨o', es, ep, ho', hd', _⟩, _⟩ := I.loc
  rw [z, ho'] at ho; cases ho; rw [hd'] at hd; cases hd
theorem Inv.funs (I : Inv X pins σ H s) : s.heap.FunFrames X.base X.outer := by
  have all : ∀ (l : List Env), (∀ b ∈ frs l, b ∈ X.fs) → X.s₀.heap.FunFrames X.base l → s.heap.FunFrames X.base l := by
    intro l
    induction l with
    | nil => intro _ _; trivial
    | cons env r ih =>
      intro hs hl
      obtain ⟨hk, ⟨L, o, hf, hn, ho, hd⟩, hr⟩ := hl
      have hL : L ∈ X.fs := hs L (by unfold frs; rw [List.filterMap_cons, hf]; exact List.mem_cons_self)
      obtain ⟨sl, e⟩ := I.base.slot L o ho (I.ok.frf L hL) hL fun z => I.ok.exfs L z hL
      exact ⟨hk, ⟨L, _, hf, hn, e, hd⟩, ih (fun b hb => hs b (by unfold frs; rw [List.filterMap_cons, hf]; exact List.mem_cons_of_mem _ hb)) hr⟩
  exact all X.outer (fun _ hb => hb) I.ok.funs
theorem Inv.stack (I : Inv X pins σ H s) : s.heap.FunFrames X.base X.stack := by
  rcases I.ok.stk with e | ⟨e, hf⟩
  · rw [e]; exact I.funs
  · rw [e]
    obtain ⟨m, hn, _⟩ := I.loc
    refine .cons (by rw [I.ok.kind]; decide) hf hn ?_ I.funs
    exact Heap.get?_none_of_le (Nat.le_trans I.ok.bsz I.ok.above)
theorem Inv.stkSub (I : Inv X pins σ H s) : ∀ b ∈ frs X.stack, b ∈ X.env.locals :: X.fs := fun b hb => by
  rcases I.ok.stk with e | ⟨e, hf⟩
  · rw [e] at hb; exact List.mem_cons_of_mem _ hb
  · rw [e] at hb
    unfold frs at hb
    rw [List.filterMap_cons, hf] at hb
    exact hb
theorem Inv.stkFree (I : Inv X pins σ H s) : ∀ b ∈ frs X.stack, H b = none := fun b hb => by
  rcases List.mem_cons.mp (I.stkSub b hb) with e | hb
  · rw [e]; exact I.free
  · obtain ⟨_, o, ho, _⟩ := I.ok.funs.mem hb
    exact I.base.free b o ho (I.ok.frf b hb) fun z => I.ok.exfs b z hb
theorem Inv.step {g' : Array GenState} {t' : Nat} {d' : Drawn} {ch : List Addr} (I : Inv X pins σ H s)
    (hch : ∀ b ∈ ch, (b ∈ X.ex ∨ X.s₀.heap.objs.size ≤ b) ∧ b ≠ X.env.locals ∧ (∀ x c, X.env.cells.lookup x = some c → c ≠ b) ∧ ∀ p ∈ X.pn ++ pins, p.1 ≠ b)
    (keep : ∀ b o, b ≠ X.env.locals → b ∉ X.fs → b ∉ ch → s.heap.get? b = some o → H b = none → h'.get? b = some o)
    (slot : ∀ b o, b ≠ X.env.locals → b ∈ X.fs → b ∉ ch → s.heap.get? b = some o → H b = none → ∃ sl, h'.get? b = some { o with slots := sl }) (free : ∀ b o, b ∉ ch → s.heap.get? b = some o → H b = none → H' b = none)
    (there : ∀ b o, b ∉ ch → s.heap.get? b = some o → ∃ o', h'.get? b = some o')
    (tups : ∀ b xs, H b = some (.tup xs) → H' b = some (.tup xs)) (frzs : ∀ b o u, H b = some (.frz o u) → H' b = some (.frz o u)) (tbls : ∀ b ps, H b = some (.tbl ps) → ∃ more, H' b = some (.tbl (ps ++ more)))
    (ns : ∀ m, s.heap.Ns X.env.locals m → h'.Ns X.env.locals m) (hok : HOk X.prog X.w H' h') (hg : AllBare g') :
    Inv X pins σ H' { s with heap := h', gens := g', drawn := d', toks := t' } := by
  have neL : ∀ b o, X.s₀.heap.get? b = some o → b ≠ X.env.locals := fun b o e => Nat.ne_of_lt (Nat.lt_of_lt_of_le (Heap.lt_size e) I.ok.above)
  have neC : ∀ b o, X.s₀.heap.get? b = some o → b ∉ X.ex → b ∉ ch := fun b o e hx hb => by
    rcases (hch b hb).1 with z | z
    · exact hx z
    · exact absurd (Nat.lt_of_lt_of_le (Heap.lt_size e) z) (Nat.lt_irrefl _)
  have cellK : ∀ x c, X.env.cells.lookup x = some c → ∀ v, s.heap.IsCell c v → h'.IsCell c v := fun x c e v ⟨o, ho, hd⟩ => by
    have nch : c ∉ ch := fun z => (hch c z).2.2.1 x c e rfl
    by_cases hc : c ∈ X.fs
    · obtain ⟨sl, q⟩ := slot c o (I.cne x c e) hc nch ho (I.freeC x c e)
      exact ⟨_, q, hd⟩
    · exact ⟨o, keep c o (I.cne x c e) hc nch ho (I.freeC x c e), hd⟩
  refine ⟨I.ok, I.os, hg, ⟨fun b o e n hb hx => ?_, fun b o e n hb hx => ?_, fun b o e n hx => ?_, fun b o e hx => ?_, fun b xs e => tups b xs (I.base.tups b xs e), fun b o xs e => frzs b o xs (I.base.frzs b o xs e), fun b ps e => ?_⟩, ?_, fun x c e => ?_, ?_, fun x c e => ?_, fun p hp => ?_, hok, I.len⟩
  · exact keep b o (neL b o e) hb (neC b o e hx) (I.base.keep b o e n hb hx) (I.base.free b o e n hx)
  · obtain ⟨sl, e1⟩ := I.base.slot b o e n hb hx
    obtain ⟨sl', e2⟩ := slot b _ (neL b o e) hb (neC b o e hx) e1 (I.base.free b o e n hx)
    exact ⟨sl', e2⟩
  · obtain ⟨o', e1⟩ := I.base.there b o e hx
    exact free b o' (neC b o e hx) e1 (I.base.free b o e n hx)
  · obtain ⟨o', e1⟩ := I.base.there b o e hx
    exact there b o' (neC b o e hx) e1
  · obtain ⟨m1, e1⟩ := I.base.tbls b ps e
    obtain ⟨m2, e2⟩ := tbls b _ e1
    exact ⟨m1 ++ m2, by rw [e2, Array.append_assoc]⟩
  · obtain ⟨m, hn, hl⟩ := I.loc
    refine ⟨m, ns m hn, fun i x v e1 e2 e3 => ?_⟩
    obtain ⟨u, r, l⟩ := hl i x v e1 e2 e3
    refine ⟨u, r, ?_⟩
    rcases l with l | ⟨k, c, e, z⟩
    · exact .inl l
    · exact .inr ⟨k, c, e, cellK x c e _ z⟩
  · obtain ⟨v, z⟩ := I.cell x c e
    exact ⟨v, cellK x c e v z⟩
  · obtain ⟨m, ⟨o, _, _, ho, _⟩, _⟩ := I.loc
    exact free _ o (fun z => (hch _ z).2.1 rfl) ho I.free
  · obtain ⟨v, o, ho, hd⟩ := I.cell x c e
    exact free c o (fun z => (hch c z).2.2.1 x c e rfl) ho (I.freeC x c e)
  · obtain ⟨e, n, ne, nf, d⟩ := I.pin p hp
    have nch : p.1 ∉ ch := fun z => (hch p.1 z).2.2.2 p hp rfl
    exact ⟨keep p.1 p.2 ne nf nch e n, free p.1 p.2 nch e n, ne, nf, d⟩
theorem Inv.un {t' : Nat} (I : Inv X pins σ H s) (u : Un X.fs [] H H' s.heap h') (hok : HOk X.prog X.w H' h') : Inv X pins σ H' { s with heap := h', toks := t' } := by
  obtain ⟨m, ⟨o, es, ep, ho, r⟩, _⟩ := id I.loc
  obtain ⟨sl, hL⟩ := u.any ho I.free (by simp)
  exact I.step (g' := s.gens) (d' := s.drawn) (ch := []) (fun _ z => nomatch z) (fun b o _ hb _ e n => u.keep b o e n hb (by simp)) (fun b o _ hb _ e n => u.slot b o e n hb (by simp)) (fun b o _ e n => u.free b o e n (by simp)) (fun b o _ e => u.there b o e (by simp)) u.tups u.frzs u.tbls (fun m' hm => by
    obtain ⟨o', es', ep', ho', r'⟩ := hm
    rw [ho] at ho'; cases ho'
    exact ⟨_, es', ep', hL, r'⟩) hok I.bare
theorem Inv.call {g' : Array GenState} {t' : Nat} {d' : Drawn} {ch : List Addr} (I : Inv X pins σ H s) (u : Un (frs X.stack) ch H H' s.heap h') (hok : HOk X.prog X.w H' h') (hg : AllBare g')
    (hch : ∀ b ∈ ch, (b ∈ X.ex ∨ X.s₀.heap.objs.size ≤ b) ∧ b ≠ X.env.locals ∧ (∀ x c, X.env.cells.lookup x = some c → c ≠ b) ∧ ∀ p ∈ X.pn ++ pins, p.1 ≠ b) :
    Inv X pins σ H' { s with heap := h', gens := g', drawn := d', toks := t' } := by
  obtain ⟨m, ⟨o, es, ep, ho, r⟩, _⟩ := id I.loc
  obtain ⟨sl, hL⟩ := u.any ho I.free fun z => (hch _ z).2.1 rfl
  exact I.step (ch := ch) hch (fun b o hL hb hc e n => u.keep b o e n (fun z => (List.mem_cons.mp (I.stkSub b z)).elim hL hb) hc) (fun b o _ _ hc e n => u.any e n hc) (fun b o hc e n => u.free b o e n hc) (fun b o hc e => u.there b o e hc) u.tups u.frzs u.tbls (fun m' hm => by
    obtain ⟨o', es', ep', ho', r'⟩ := hm
    rw [ho] at ho'; cases ho'
    exact ⟨_, es', ep', hL, r'⟩) hok hg
theorem Inv.turned {t' : Nat} {it : Addr} (I : Inv X pins σ H s) (k : ∀ b o, b ≠ it → s.heap.get? b = some o → h'.get? b = some o) (hn : H it = none) (hL : it ≠ X.env.locals)
    (h1 : it ∈ X.ex ∨ X.s₀.heap.objs.size ≤ it) (h2 : ∀ x c, X.env.cells.lookup x = some c → c ≠ it) (h3 : ∀ p ∈ X.pn ++ pins, p.1 ≠ it) : Inv X pins σ H { s with heap := h', toks := t' } := by
  have nit : ∀ b u, H b = some u → b ≠ it := fun b u e z => by rw [z, hn] at e; cases e
  refine I.step (g' := s.gens) (d' := s.drawn) (ch := [it]) (fun b hb => ?_) (fun b o _ _ hc e _ => k b o (fun z => hc (by simp [z])) e) (fun b o _ _ hc e _ => ⟨o.slots, k b o (fun z => hc (by simp [z])) e⟩) (fun _ _ _ _ n => n)
    (fun b o hc e => ⟨o, k b o (fun z => hc (by simp [z])) e⟩) (fun _ _ e => e) (fun _ _ _ e => e) (fun b ps e => ⟨#[], by rw [e]; simp⟩) (fun m hm => ?_) (fun b u e => ?_) I.bare
  · have e : b = it := by simpa using hb
    subst e
    exact ⟨h1, hL, h2, h3⟩
  · obtain ⟨o, es, ep, ho, r⟩ := hm
    exact ⟨o, es, ep, k _ o (Ne.symm hL) ho, r⟩
  · refine (I.hok b u e).stay (fun c v hc q => k c v ?_ q) (fun _ q => q) fun _ _ q => q
    rcases hc with z | z
    · rw [z]; exact nit b u e
    · exact nit c _ z
theorem Inv.tok (I : Inv X pins σ H s) (t : Nat) : Inv X pins σ H { s with toks := t } := I.un (h' := s.heap) (t' := t) Un.refl I.hok
theorem Inv.kept {t' : Nat} (I : Inv X pins σ H s) (k : ∀ b u, s.heap.get? b = some u → h'.get? b = some u) : Inv X pins σ H { s with heap := h', toks := t' } := I.un (Un.kept k) (I.hok.kept k)
theorem Inv.laid {a : Addr} {o : HO} {t' : Nat} (I : Inv X pins σ H s) (k : ∀ b u, s.heap.get? b = some u → h'.get? b = some u) (hp : s.heap.objs.size ≤ a) (new : ObjOk X.prog X.w (upd H a o) h' a o) :
    Inv X pins σ (upd H a o) { s with heap := h', toks := t' } := I.un (Un.laid k hp (I.hok.fresh hp)) (I.hok.laid k hp new)
theorem Inv.write {x e : Addr} {o : HO} {t' : Nat} (I : Inv X pins σ H s) (mu : Mut (H x)) (he : e = x ∨ H e = some (.own x)) (k : ∀ b u, b ≠ e → s.heap.get? b = some u → h'.get? b = some u) (heo : ∃ u, h'.get? e = some u)
    (new : ObjOk X.prog X.w (upd H x o) h' x o) : Inv X pins σ (upd H x o) { s with heap := h', toks := t' } := I.un (Un.write mu he k heo) (I.hok.write mu he k heo new)
theorem Inv.pins_of {pins' : List (Addr × Obj)} (I : Inv X pins σ H s) (h : ∀ p ∈ pins', s.heap.get? p.1 = some p.2 ∧ H p.1 = none ∧ p.1 ≠ X.env.locals ∧ p.1 ∉ X.fs ∧ ∀ v, p.2.data ≠ .cell v) : Inv X pins' σ H s :=
  ⟨I.ok, I.os, I.bare, I.base, I.loc, I.cell, I.free, I.freeC, fun p hp => (List.mem_append.mp hp).elim (fun z => I.pin p (List.mem_append_left _ z)) (h p), I.hok, I.len⟩
theorem nodup_ix {N : List Str} (hN : N.Nodup) {i j : Nat} {x : Str} (a : N[i]? = some x) (b : N[j]? = some x) : i = j := by
  obtain ⟨h1, e1⟩ := List.getElem?_eq_some_iff.mp a
  obtain ⟨h2, e2⟩ := List.getElem?_eq_some_iff.mp b
  exact (List.getElem_inj hN).mp (e1.trans e2.symm)
theorem store_ok2 {M : Model} {A : Around} {E : Value → Shared → Prop} {i : Nat} {x : Str} {v : V} {u : Value} {Q : Unit → Shared → Prop} (I : Inv X pins σ H s) (hN : X.N.Nodup) (hi : X.N[i]? = some x) (hx : Loc X.env.scope x) (r : RelV v u)
    (h : ∀ s', Inv X pins (σ.set i (some v)) H s' → (∃ a, Heap.SameBut a s.heap s'.heap ∧ (a = X.env.locals ∨ X.env.cells.lookup x = some a)) → Q () s') (hf : X.fn x = true ∨ X.env.scope.names.lookup x = some .local := by first | exact .inl rfl | exact .inr rfl | assumption) : wpAny M A (storeName X.env x u) Q E s := by
  obtain ⟨m, hn, hl⟩ := id I.loc
  have hcls : (X.env.scope.kind == .class || (X.env.scope.kind == .module && X.env.locals != X.env.globals)) = false := by rw [I.ok.kind]; rfl
  have hiσ : i < σ.length := by rw [I.len]; exact (List.getElem?_eq_some_iff.mp hi).1
  have cne := I.cne
  have tracked : ∀ {a : Addr} {h' : Heap}, (∃ o, s.heap.get? a = some o ∧ H a = none) → Heap.SameBut a s.heap h' → HOk X.prog X.w H h' := fun {a h'} ha hs b ob e => by
    obtain ⟨_, _, hfree⟩ := ha
    refine (I.hok b ob e).stay (fun c w' hc q => (hs.2 c ?_).trans q) (fun _ q => q) fun _ _ q => q
    rintro rfl
    rcases hc with rfl | hc
    · rw [hfree] at e; cases e
    · rw [hfree] at hc; cases hc
  rcases hx with hk | hk
  · refine wpAny_storeName_local hk hn (fun h' hn' hs => ?_) hcls
    obtain ⟨oL, _, _, hoL, _⟩ := id hn
    refine h _ ⟨I.ok, I.os, I.bare, ⟨fun b o e n hb hx => ?_, fun b o e n hb hx => ?_, I.base.free, fun b o e hx => ?_, I.base.tups, I.base.frzs, I.base.tbls⟩, ⟨_, hn', fun j y v' e1 e2 e3 => ?_⟩, fun y c e => ?_, I.free, I.freeC, fun p hp => ?_, tracked ⟨oL, hoL, I.free⟩ hs, by simpa using I.len⟩ ⟨_, hs, .inl rfl⟩
    · exact (hs.2 b (Nat.ne_of_lt (Nat.lt_of_lt_of_le (Heap.lt_size e) I.ok.above))).trans (I.base.keep b o e n hb hx)
    · obtain ⟨sl, e1⟩ := I.base.slot b o e n hb hx
      exact ⟨sl, (hs.2 b (Nat.ne_of_lt (Nat.lt_of_lt_of_le (Heap.lt_size e) I.ok.above))).trans e1⟩
    · obtain ⟨o', e1⟩ := I.base.there b o e hx
      exact ⟨o', (hs.2 b (Nat.ne_of_lt (Nat.lt_of_lt_of_le (Heap.lt_size e) I.ok.above))).trans e1⟩
    · by_cases hj : j = i
      · subst hj
        rw [hi] at e1; cases e1
        rw [List.getElem?_set_self hiσ] at e2
        cases e2
        exact ⟨u, r, .inl ⟨hk, by simp⟩⟩
      · rw [List.getElem?_set_ne (Ne.symm hj)] at e2
        obtain ⟨u', r', q⟩ := hl j y v' e1 e2 e3
        refine ⟨u', r', ?_⟩
        rcases q with ⟨k, e⟩ | ⟨k, c, e, z⟩
        · refine .inl ⟨k, ?_⟩
          have : y ≠ x := fun e => hj (nodup_ix hN e1 (e ▸ hi))
          simp [this, e]
        · exact .inr ⟨k, c, e, z.sameBut hs (cne y c e)⟩
    · obtain ⟨w', z⟩ := I.cell y c e
      exact ⟨w', z.sameBut hs (cne y c e)⟩
    · obtain ⟨e, n, ne, nf, d⟩ := I.pin p hp
      exact ⟨(hs.2 p.1 ne).trans e, n, ne, nf, d⟩
  · have hfn : X.fn x = true := by
      rcases hf with z | z
      · exact z
      · rw [z] at hk; cases hk
    obtain ⟨c, hc⟩ := I.ok.has x (.inl hk)
    obtain ⟨w', z⟩ := I.cell x c hc
    refine wpAny_storeName_cell I.ok.kind hk hc z (fun h' hc' hs => ?_)
    obtain ⟨oc, hoc, hocd⟩ := id z
    refine h { s with heap := h' } ⟨I.ok, I.os, I.bare, ⟨fun b o e n hb hx => ?_, fun b o e n hb hx => ?_, I.base.free, fun b o e hx => ?_, I.base.tups, I.base.frzs, I.base.tbls⟩, ⟨m, hn.sameBut hs (Ne.symm (cne x c hc)), fun j y v' e1 e2 e3 => ?_⟩, fun y c' e => ?_, I.free, I.freeC, fun p hp => ?_, tracked ⟨oc, hoc, I.freeC x c hc⟩ hs, by simpa using I.len⟩ ⟨c, hs, .inr hc⟩
    · exact (hs.2 b (Nat.ne_of_lt (Nat.lt_of_lt_of_le (Heap.lt_size e) (I.ok.cab x c hfn hc)))).trans (I.base.keep b o e n hb hx)
    · obtain ⟨sl, e1⟩ := I.base.slot b o e n hb hx
      exact ⟨sl, (hs.2 b (Nat.ne_of_lt (Nat.lt_of_lt_of_le (Heap.lt_size e) (I.ok.cab x c hfn hc)))).trans e1⟩
    · obtain ⟨o', e1⟩ := I.base.there b o e hx
      exact ⟨o', (hs.2 b (Nat.ne_of_lt (Nat.lt_of_lt_of_le (Heap.lt_size e) (I.ok.cab x c hfn hc)))).trans e1⟩
    · by_cases hj : j = i
      · subst hj
        rw [hi] at e1; cases e1
        rw [List.getElem?_set_self hiσ] at e2
        cases e2
        exact ⟨u, r, .inr ⟨.inl hk, c, hc, hc'⟩⟩
      · rw [List.getElem?_set_ne (Ne.symm hj)] at e2
        obtain ⟨u', r', q⟩ := hl j y v' e1 e2 e3
        refine ⟨u', r', ?_⟩
        rcases q with q | ⟨k, c', e, z'⟩
        · exact .inl q
        · refine .inr ⟨k, c', e, z'.sameBut hs ?_⟩
          rintro rfl
          exact hj (nodup_ix hN e1 (I.ok.inj _ _ _ e hc ▸ hi))
    · by_cases hcc : c' = c
      · subst hcc; exact ⟨_, hc'⟩
      · obtain ⟨w2, z2⟩ := I.cell y c' e
        exact ⟨w2, z2.sameBut hs hcc⟩
    · obtain ⟨e, n, ne, nf, d⟩ := I.pin p hp
      refine ⟨(hs.2 p.1 ?_).trans e, n, ne, nf, d⟩
      intro q
      rw [q, hoc] at e
      have q' : oc = p.2 := Option.some.inj e
      exact d w' (by rw [← q']; exact hocd)
theorem store_ok {M : Model} {A : Around} {E : Value → Shared → Prop} {i : Nat} {x : Str} {v : V} {u : Value} {Q : Unit → Shared → Prop} (I : Inv X pins σ H s) (hN : X.N.Nodup) (hi : X.N[i]? = some x) (hx : Loc X.env.scope x) (r : RelV v u)
    (h : ∀ s', Inv X pins (σ.set i (some v)) H s' → Q () s') (hf : X.fn x = true ∨ X.env.scope.names.lookup x = some .local := by first | exact .inl rfl | exact .inr rfl | assumption) : wpAny M A (storeName X.env x u) Q E s :=
  store_ok2 I hN hi hx r (fun s' I' _ => h s' I') hf
theorem Inv.call' {s' : Shared} {ch : List Addr} (I : Inv X pins σ H s) (ho : s'.os = s.os) (u : Un (frs X.stack) ch H H' s.heap s'.heap) (hok : HOk X.prog X.w H' s'.heap) (hg : AllBare s'.gens)
    (hch : ∀ b ∈ ch, (b ∈ X.ex ∨ X.s₀.heap.objs.size ≤ b) ∧ b ≠ X.env.locals ∧ (∀ x c, X.env.cells.lookup x = some c → c ≠ b) ∧ ∀ p ∈ X.pn ++ pins, p.1 ≠ b) : Inv X pins σ H' s' := by
  obtain ⟨h', g', d', t', o'⟩ := s'
  have e : o' = s.os := ho
  subst e
  exact I.call (g' := g') (t' := t') (d' := d') u hok hg hch
end
abbrev XK := Value → Option Addr → Hp → Prop
abbrev St := List (Option V)
abbrev VK := V → Hp → Prop
abbrev TE := St → Hp → VK → Prop
abbrev TT := St → Hp → (Bool → Hp → Prop) → Prop
abbrev TA := St → Hp → (List V → Hp → Prop) → Prop
structure Ends where
  nx : St → Hp → Prop
  rt : VK
  bk : St → Hp → Prop := fun _ _ => False
  ct : St → Hp → Prop := fun _ _ => False
abbrev TS := Ends → St → Hp → Prop
def EP (X : Cx) (pins : List (Addr × Obj)) (σ : St) (Q : VK) (u : Value) (s' : Shared) : Prop := ∃ v H', Inv X pins σ H' s' ∧ RelV v u ∧ Q v H'
def TP (X : Cx) (pins : List (Addr × Obj)) (σ : St) (Q : Bool → Hp → Prop) (b : Bool) (s' : Shared) : Prop := ∃ H', Inv X pins σ H' s' ∧ Q b H'
def AP (X : Cx) (pins : List (Addr × Obj)) (σ : St) (Q : List V → Hp → Prop) (us : List Value) (s' : Shared) : Prop := ∃ vs H', Inv X pins σ H' s' ∧ Vals vs us ∧ Q vs H'
def SP (X : Cx) (pins : List (Addr × Obj)) (D : Ends) (f : Flow) (s' : Shared) : Prop :=
  match f with
  | .next => ∃ σ' H', Inv X pins σ' H' s' ∧ D.nx σ' H'
  | .brk => ∃ σ' H', Inv X pins σ' H' s' ∧ D.bk σ' H'
  | .cont => ∃ σ' H', Inv X pins σ' H' s' ∧ D.ct σ' H'
  | .ret u => ∃ v σ' H', Inv X pins σ' H' s' ∧ RelV v u ∧ D.rt v H'
def PE (X : Cx) (e : Expr) (t : TE) : Prop :=
  ∀ (pins : List (Addr × Obj)) (s : Shared) (σ : St) (H : Hp) (Q : VK), Inv X pins σ H s → t σ H Q → wpAny (model X.prog X.w) X.A (eval e X.env) (EP X pins σ Q) X.xe s
def PT (X : Cx) (e : Expr) (t : TT) : Prop :=
  ∀ (pins : List (Addr × Obj)) (s : Shared) (σ : St) (H : Hp) (Q : Bool → Hp → Prop), Inv X pins σ H s → t σ H Q → wpAny (model X.prog X.w) X.A (isTrue e X.env (eval e X.env)) (TP X pins σ Q) X.xe s
def PW (X : Cx) (e : Expr) (t : TT) : Prop :=
  ∀ (whole : Sem Value) (pins : List (Addr × Obj)) (s : Shared) (σ : St) (H : Hp) (Q : Bool → Hp → Prop), Inv X pins σ H s → t σ H Q → wpAny (model X.prog X.w) X.A (isTrue e X.env whole) (TP X pins σ Q) X.xe s
theorem PW.pt {X : Cx} {e : Expr} {t : TT} (h : PW X e t) : PT X e t := h _
def PA (X : Cx) (es : List Expr) (t : TA) : Prop :=
  ∀ (pos : Pos) (pins : List (Addr × Obj)) (s : Shared) (σ : St) (H : Hp) (Q : List V → Hp → Prop), Inv X pins σ H s → t σ H Q → wpAny (model X.prog X.w) X.A (spliced (backTo pos (starEach es X.env))) (AP X pins σ Q) X.xe s
def PS (X : Cx) (st : Stmt) (t : TS) : Prop :=
  ∀ (pins : List (Addr × Obj)) (s : Shared) (σ : St) (H : Hp) (D : Ends), Inv X pins σ H s → t D σ H → wpAny (model X.prog X.w) X.A (exec st X.env) (SP X pins D) X.xe s
def PSs (X : Cx) (st : List Stmt) (t : TS) : Prop :=
  ∀ (pins : List (Addr × Obj)) (s : Shared) (σ : St) (H : Hp) (D : Ends), Inv X pins σ H s → t D σ H → wpAny (model X.prog X.w) X.A (execs st X.env) (SP X pins D) X.xe s
theorem thn {α : Type} {t : Sem α} {Q Q' : α → Shared → Prop} {M : Model} {A : Around} {E : Value → Shared → Prop} {s : Shared} (h : wpAny M A t Q E s) (hQ : ∀ a s, Q a s → Q' a s) : wpAny M A t Q' E s := wpAny_mono h hQ fun _ _ x => x
end L2
namespace L2
open PySem PySem.Spec PyProof.Rows
section
variable {X : Cx}
theorem bin {a b : Expr} {ta tb : TE} (ha : PE X a ta) (hb : PE X b tb) {pins : List (Addr × Obj)} {s : Shared} {σ : St} {H : Hp} {R : V → V → Hp → Prop} (I : Inv X pins σ H s) (h : ta σ H fun x H1 => tb σ H1 fun y H2 => R x y H2)
    {α : Type} {Q : α → Shared → Prop} {f : Value → Value → Sem α}
    (hf : ∀ v u s2 x y H2, Inv X pins σ H2 s2 → RelV x v → RelV y u → R x y H2 → wpAny (model X.prog X.w) X.A (f v u) Q X.xe s2) :
    wpAny (model X.prog X.w) X.A (eval a X.env) (fun v s₁ => wpAny (model X.prog X.w) X.A (eval b X.env) (fun u s₂ => wpAny (model X.prog X.w) X.A (f v u) Q X.xe s₂) X.xe s₁) X.xe s := by
  refine thn (ha pins s σ H _ I h) fun v s1 ⟨x, H1, I1, r1, q1⟩ => ?_
  refine thn (hb pins s1 σ H1 _ I1 q1) fun u s2 ⟨y, H2, I2, r2, q2⟩ => ?_
  exact hf v u s2 x y H2 I2 r1 r2 q2
def tVar (i : Nat) : TE := fun σ H Q => ∃ v, σ[i]? = some (some v) ∧ Q v H
def tC (v : V) : TE := fun _ H Q => Q v H
theorem pe_var {i : Nat} {x : Str} {pos : Pos} (hN : X.N[i]? = some x) (hv : Vis X.env.scope x) (hd : (x == ("__debug__" : Str)) = false := by decide) (hcd : (x == ("__classdict__" : Str)) = false := by decide) : PE X (.Name x pos) (tVar i) := by
  intro pins s σ H Q I h
  obtain ⟨v, e, h⟩ := h
  obtain ⟨m, hn, hl⟩ := I.loc
  obtain ⟨u, r, l⟩ := hl i x v hN e hv
  have fin : EP X pins σ Q u s := ⟨v, H, I, r, h⟩
  rcases l with ⟨hk, hm⟩ | ⟨hk, c, hc, hcell⟩
  · exact wpAny_Name (wpAny_loadName_local I.ok.kind hk hn hm fin) hd
  · rcases hk with hk | hk
    · exact wpAny_Name (wpAny_loadName_cell I.ok.kind hk hc hcell fin) hd
    · exact wpAny_Name (wpAny_loadName_free I.ok.kind hk hc hcell fin hcd) hd
theorem pe_int {i j pos} : PE X (.Constant (.int i) j pos) (tC (.int i)) := fun _ _ _ H _ I h => wpAny_Constant_int ⟨.int i, H, I.tok _, ⟨_, rfl⟩, h⟩
theorem pe_bl {b j pos} : PE X (.Constant (.bool b) j pos) (tC (.bl b)) := fun _ _ _ H _ I h => Constant_bool ⟨.bl b, H, I, rfl, h⟩
theorem pe_non {j pos} : PE X (.Constant .none j pos) (tC .non) := fun _ _ _ H _ I h => Constant_none ⟨.non, H, I, rfl, h⟩
theorem pe_str {x j pos} : PE X (.Constant (.str x) j pos) (tC (.str x)) := fun _ _ _ H _ I h => Calls.Constant_str ⟨.str x, H, I.tok _, ⟨_, rfl⟩, h⟩
def Gl (X : Cx) (x : Str) : Prop := X.env.kindOf x = some .globalImplicit
theorem ld_glob {E : Value → Shared → Prop} {pins : List (Addr × Obj)} {s : Shared} {σ : St} {H : Hp} {x : Str} {u : Value} {pos : Pos} {Q : Value → Shared → Prop} (I : Inv X pins σ H s) (hg : Gl X x) (hm : X.mg x = some u) (h : Q u s)
    (hd : (x == ("__debug__" : Str)) = false := by decide) : wpAny (model X.prog X.w) X.A (eval (.Name x pos) X.env) Q E s :=
  Calls.Name_function_global I.ok.kind hg (Calls.loadGlobal_global (by rw [I.ok.glob]; exact I.mod.glob.keeps I.bk) hm h) hd
theorem ld_blt {E : Value → Shared → Prop} {pins : List (Addr × Obj)} {s : Shared} {σ : St} {H : Hp} {x : Str} {u : Value} {pos : Pos} {Q : Value → Shared → Prop} (I : Inv X pins σ H s) (hg : Gl X x) (hm : X.mg x = none) (hv : bootBuiltins x = some u) (h : Q u s)
    (hn : x ≠ "__name__" := by decide) (hd : (x == ("__debug__" : Str)) = false := by decide) : wpAny (model X.prog X.w) X.A (eval (.Name x pos) X.env) Q E s := by
  obtain ⟨mb, h1, h2⟩ := I.mod.blt
  exact Calls.Name_function_global I.ok.kind hg (Calls.loadGlobal_builtin (by rw [I.ok.glob]; exact I.mod.glob.keeps I.bk) hm (by rw [I.ok.blt]; exact h1.keeps I.bk) ((h2 x hn).trans hv) h) hd
theorem pe_glob {x : Str} {v : V} {u : Value} {pos : Pos} (hg : Gl X x) (hm : X.mg x = some u) (r : RelV v u) (hd : (x == ("__debug__" : Str)) = false := by decide) : PE X (.Name x pos) (tC v) :=
  fun _ _ _ H _ I h => ld_glob I hg hm ⟨v, H, I, r, h⟩ hd
theorem pe_bltn {x : Str} {v : V} {u : Value} {pos : Pos} (hg : Gl X x) (hm : X.mg x = none) (hv : bootBuiltins x = some u) (r : RelV v u) (hn : x ≠ "__name__" := by decide) (hd : (x == ("__debug__" : Str)) = false := by decide) : PE X (.Name x pos) (tC v) :=
  fun _ _ _ H _ I h => ld_blt I hg hm hv ⟨v, H, I, r, h⟩ hn hd
variable {a b : Expr} {ta tb : TE} {pos : Pos}
def PC (X : Cx) (op : CmpOp) (a b : Expr) (t : TE) : Prop :=
  ∀ (pins : List (Addr × Obj)) (s : Shared) (σ : St) (H : Hp) (Q : VK), Inv X pins σ H s → t σ H Q →
    wpAny (model X.prog X.w) X.A (eval a X.env) (fun v s₁ => wpAny (model X.prog X.w) X.A (eval b X.env) (fun u s₂ => wpAny (model X.prog X.w) X.A (compareOp op v u) (EP X pins σ Q) X.xe s₂) X.xe s₁) X.xe s
def tB (t : TE) : TT := fun σ H Q => t σ H fun x H1 => ∃ c, x = .bl c ∧ Q c H1
theorem pt_cmp {op : CmpOp} {t : TE} (h : PC X op a b t) (h1 : behindInMarks op b = false := by first | exact nobehind _ (by decide) (by decide) | rfl) : PT X (.Compare a [op] [b] pos) (tB t) := by
  intro pins s σ H Q I hw
  refine wpAny_isTrue_Compare1 (thn (h pins s σ H _ I hw) fun v s1 h1 => thn h1 fun u s2 h2 => thn h2 fun c s3 ⟨x, H1, I1, r1, q1⟩ => ?_) h1
  obtain ⟨d, rfl, q⟩ := q1
  cases r1
  exact wpAny_truthy_bool ⟨H1, I1, q⟩
theorem pt_val {e : Expr} {t : TE} (h : PE X e t) (he : ∀ whole, isTrue e X.env whole = (do let v ← whole; standAt e.pos; holding [v] (truthy v)) := by intro _; rfl) : PT X e (tB t) := by
  intro pins s σ H Q I hw
  refine isTrue_plain (thn (h pins s σ H _ I hw) fun v s1 ⟨x, H1, I1, r1, q1⟩ => ?_) (he _)
  obtain ⟨d, rfl, q⟩ := q1
  cases r1
  exact wpAny_truthy_bool ⟨H1, I1, q⟩
variable {tA tB' : TT} {rest : List Expr}
def tAnd (t u : TT) : TT := fun σ H Q => t σ H fun c H1 => if c = true then u σ H1 Q else Q false H1
def tOr (t u : TT) : TT := fun σ H Q => t σ H fun c H1 => if c = true then Q true H1 else u σ H1 Q
def tNot (t : TT) : TT := fun σ H Q => t σ H fun c H1 => Q (!c) H1
theorem pw_and1 (ha : PT X a tA) : PW X (.BoolOp .And [a] pos) tA := by
  intro wh pins s σ H Q I h
  refine isTrue_and (thn (ha pins s σ H Q I h) fun c s1 e => ?_)
  cases c with
  | true => exact isTrue_and_nil e
  | false => exact e
theorem pw_or1 (ha : PT X a tA) : PW X (.BoolOp .Or [a] pos) tA := by
  intro wh pins s σ H Q I h
  refine isTrue_or (thn (ha pins s σ H Q I h) fun c s1 e => ?_)
  cases c with
  | false => exact isTrue_or_nil e
  | true => exact e
theorem pw_and (ha : PT X a tA) (hb : PW X (.BoolOp .And (b :: rest) pos) tB') : PW X (.BoolOp .And (a :: b :: rest) pos) (tAnd tA tB') := by
  intro wh pins s σ H Q I h
  refine isTrue_and (thn (ha pins s σ H _ I h) fun c s1 ⟨H1, I1, q1⟩ => ?_)
  cases c with
  | true => exact hb wh pins s1 σ H1 Q I1 q1
  | false => exact ⟨H1, I1, q1⟩
theorem pw_or (ha : PT X a tA) (hb : PW X (.BoolOp .Or (b :: rest) pos) tB') : PW X (.BoolOp .Or (a :: b :: rest) pos) (tOr tA tB') := by
  intro wh pins s σ H Q I h
  refine isTrue_or (thn (ha pins s σ H _ I h) fun c s1 ⟨H1, I1, q1⟩ => ?_)
  cases c with
  | true => exact ⟨H1, I1, q1⟩
  | false => exact hb wh pins s1 σ H1 Q I1 q1
theorem pt_not (ha : PT X a tA) : PT X (.UnaryOp .Not a pos) (tNot tA) := by
  intro pins s σ H Q I h
  exact isTrue_not (ha pins s σ H (fun c H1 => Q (!c) H1) I h)
def tAndV (ta tb : TE) : TE := fun σ H Q => ta σ H fun x H1 => ∃ c, x = .bl c ∧ if c = true then tb σ H1 Q else Q (.bl false) H1
def tNotV (ta : TE) : TE := fun σ H Q => ta σ H fun x H1 => ∃ c, x = .bl c ∧ Q (.bl (!c)) H1
theorem pe_one {op} {t : TE} (h : PE X a t) : PE X (.BoolOp op [a] pos) t := fun pins s σ H Q I hw => BoolOp_one (h pins s σ H Q I hw)
theorem pe_and (ha : PE X a ta) (hb : PE X (.BoolOp .And (b :: rest) pos) tb) : PE X (.BoolOp .And (a :: b :: rest) pos) (tAndV ta tb) := by
  intro pins s σ H Q I h
  refine BoolOp_and (thn (ha pins s σ H _ I h) fun v s1 ⟨x, H1, I1, r1, q1⟩ => ?_)
  obtain ⟨c, rfl, q1⟩ := q1
  cases r1
  refine wpAny_truthy_bool ?_
  cases c with
  | true => exact hb pins s1 σ H1 Q I1 q1
  | false => exact ⟨.bl false, H1, I1, rfl, q1⟩
theorem pe_not (ha : PE X a ta) : PE X (.UnaryOp .Not a pos) (tNotV ta) := by
  intro pins s σ H Q I h
  refine UnaryOp_ (thn (ha pins s σ H _ I h) fun v s1 ⟨x, H1, I1, r1, q1⟩ => ?_)
  obtain ⟨c, rfl, q1⟩ := q1
  cases r1
  exact not_of (wpAny_truthy_bool ⟨.bl (!c), H1, I1, rfl, q1⟩)
end
end L2
namespace L2
open PySem PySem.Spec PyProof.Rows
def SqL (K : PySem.W.Frag) (H : Hp) (a : Addr) (xs : List V) : Prop :=
  Rd H a (.lst xs) ∨
    ∃ (o : Obj) (its : Array Value) (n : Nat), K.lookup a = some o ∧ o.cls = .type "list" ∧ o.dict = none ∧ o.data = .seq its n ∧ its.size ≤ sizeLine ∧ Vals xs its.toList
def SqT (K : PySem.W.Frag) (H : Hp) (a : Addr) (xs : List V) : Prop :=
  Rd H a (.tup xs) ∨
    ∃ (o : Obj) (its : Array Value) (n : Nat), K.lookup a = some o ∧ o.cls = .type "tuple" ∧ o.data = .seq its n ∧ its.size ≤ sizeLine ∧ Vals xs its.toList
def absV : Value → Option V
  | .none => some .non
  | .bool b => some (.bl b)
  | .int i _ => some (.int i)
  | .str x _ => some (.str x)
  | .bytes b _ => some (.byt b)
  | .float b _ => some (.flt b)
  | .ref a => some (.ref a)
  | .type n => some (.ty n)
  | _ => none
theorem RelV.abs {x : V} {u : Value} (r : RelV x u) : absV u = some x := by
  cases x with
  | non => cases r; rfl
  | bl _ => cases r; rfl
  | int _ => obtain ⟨t, rfl⟩ := r; rfl
  | str _ => obtain ⟨t, rfl⟩ := r; rfl
  | byt _ => obtain ⟨t, rfl⟩ := r; rfl
  | flt _ => obtain ⟨t, rfl⟩ := r; rfl
  | ref _ => cases r; rfl
  | ty _ => cases r; rfl
theorem RelV.inj {x y : V} {u : Value} (r : RelV x u) (q : RelV y u) : x = y := Option.some.inj (r.abs.symm.trans q.abs)
theorem Vals.inj : ∀ {xs ys : List V} {us : List Value}, Vals xs us → Vals ys us → xs = ys
  | _, _, _, .nil, .nil => rfl
  | _, _, _, .cons r t, .cons r' t' => by rw [r.inj r', Vals.inj t t']
section
variable {X : Cx} {pins : List (Addr × Obj)} {σ : St} {H : Hp} {s : Shared} {a : Addr} {xs ys : List V}
theorem SqL.of {K : PySem.W.Frag} (h : H a = some (.lst xs)) : SqL K H a xs := .inl (.inl h)
theorem SqT.of {K : PySem.W.Frag} (h : H a = some (.tup xs)) : SqT K H a xs := .inl (.inl h)
theorem Inv.list (I : Inv X pins σ H s) (h : SqL X.K H a xs) : ∃ its : List Value, Vals xs its ∧ PlainL s.heap a its.toArray ∧ xs.length ≤ sizeLine := by
  rcases h with h | ⟨o, its, n, hk, hc, hd, hs, hz, r⟩
  · obtain ⟨z, its, n, r, e⟩ := h.ok I.hok
    exact ⟨its, r, ⟨_, n, e, rfl, rfl, rfl⟩, z⟩
  · refine ⟨its.toList, r, ⟨o, n, I.kIn a o hk, hc, hd, by simpa using hs⟩, ?_⟩
    have e := r.length
    simp only [Array.length_toList] at e
    omega
theorem Inv.tuple (I : Inv X pins σ H s) (h : SqT X.K H a xs) : ∃ its : List Value, Vals xs its ∧ IsTup s.heap a its.toArray ∧ xs.length ≤ sizeLine := by
  rcases h with h | ⟨o, its, n, hk, hc, hs, hz, r⟩
  · obtain ⟨z, its, r, p⟩ := h.ok I.hok
    exact ⟨its, r, p, z⟩
  · refine ⟨its.toList, r, ⟨o, I.kIn a o hk, hc, n, by simpa using hs⟩, ?_⟩
    have e := r.length
    simp only [Array.length_toList] at e
    omega
theorem Inv.list_inj (I : Inv X pins σ H s) (h : SqL X.K H a xs) (h' : SqL X.K H a ys) : xs = ys := by
  obtain ⟨its, r, ⟨o, n, e, _, _, d⟩, _⟩ := I.list h
  obtain ⟨its', r', ⟨o', n', e', _, _, d'⟩, _⟩ := I.list h'
  rw [e] at e'; cases e'
  rw [d] at d'
  injection d' with d1 _
  have : its = its' := by simpa using congrArg Array.toList d1
  subst this
  exact r.inj r'
theorem Inv.tuple_inj (I : Inv X pins σ H s) (h : SqT X.K H a xs) (h' : SqT X.K H a ys) : xs = ys := by
  obtain ⟨its, r, ⟨o, e, _, n, d⟩, _⟩ := I.tuple h
  obtain ⟨its', r', ⟨o', e', _, n', d'⟩, _⟩ := I.tuple h'
  rw [e] at e'; cases e'
  rw [d] at d'
  injection d' with d1 _
  have : its = its' := by simpa using congrArg Array.toList d1
  subst this
  exact r.inj r'
end
abbrev Cx.wish (X : Cx) (E : Value → Shared → Prop) : Cx := { X with xe := E }
abbrev Cx.nox (X : Cx) : Cx := X.wish fun _ _ => False
theorem Cx.Ok.wish {X : Cx} (ok : X.Ok) (E : Value → Shared → Prop) : (X.wish E).Ok :=
  ⟨ok.mod, ok.kind, ok.glob, ok.blt, ok.above, ok.inj, ok.has, ok.cab, ok.hd, ok.frames, ok.stk, ok.exf, ok.bs, ok.bsz, ok.noex, ok.exfs, ok.funs, ok.frf⟩
theorem Cx.Ok.unwish {X : Cx} {E : Value → Shared → Prop} (ok : (X.wish E).Ok) : X.Ok :=
  ⟨ok.mod, ok.kind, ok.glob, ok.blt, ok.above, ok.inj, ok.has, ok.cab, ok.hd, ok.frames, ok.stk, ok.exf, ok.bs, ok.bsz, ok.noex, ok.exfs, ok.funs, ok.frf⟩
section
variable {X : Cx} {pins : List (Addr × Obj)} {σ : St} {H : Hp} {s : Shared} {E : Value → Shared → Prop}
theorem Inv.wish (I : Inv X pins σ H s) (E : Value → Shared → Prop) : Inv (X.wish E) pins σ H s := ⟨I.ok.wish E, I.os, I.bare, I.base, I.loc, I.cell, I.free, I.freeC, I.pin, I.hok, I.len⟩
theorem Inv.unwish (I : Inv (X.wish E) pins σ H s) : Inv X pins σ H s := ⟨I.ok.unwish, I.os, I.bare, I.base, I.loc, I.cell, I.free, I.freeC, I.pin, I.hok, I.len⟩
theorem SP.unwish {D : Ends} {f : Flow} {s' : Shared} (h : SP (X.wish E) pins D f s') : SP X pins D f s' := by
  cases f with
  | next => obtain ⟨σ', H', I, q⟩ := h; exact ⟨σ', H', I.unwish, q⟩
  | brk => obtain ⟨σ', H', I, q⟩ := h; exact ⟨σ', H', I.unwish, q⟩
  | cont => obtain ⟨σ', H', I, q⟩ := h; exact ⟨σ', H', I.unwish, q⟩
  | ret u => obtain ⟨v, σ', H', I, r, q⟩ := h; exact ⟨v, σ', H', I.unwish, r, q⟩
theorem PSs.nox {st : List Stmt} {t : TS} (h : PSs X.nox st t) : PSs X st t := fun pins s σ H D I hw =>
  wpAny_mono (h pins s σ H D (I.wish _) hw) (fun _ _ q => q.unwish) fun _ _ z => False.elim z
end
section
variable {X : Cx} {st : Stmt} {rest : List Stmt} {t u : TS} {e : Expr} {te : TE} {pos : Pos}
def tNext : TS := fun D σ H => D.nx σ H
def tSeq (t u : TS) : TS := fun D σ H => t { D with nx := u D } σ H
theorem pss_nil : PSs X [] tNext := fun _ _ σ H _ I h => wpAny_execs_nil ⟨σ, H, I, h⟩
theorem pss_cons (h1 : PS X st t) (h2 : PSs X rest u) : PSs X (st :: rest) (tSeq t u) := by
  intro pins s σ H D I h
  refine wpAny_execs_cons (thn (h1 pins s σ H { D with nx := u D } I h) fun f s1 q => ?_)
  cases f with
  | next =>
    obtain ⟨σ', H', I', q⟩ := q
    exact h2 pins s1 σ' H' D I' q
  | ret v => exact q
  | brk => exact q
  | cont => exact q
theorem pss_one (h1 : PS X st t) : PSs X [st] t := by
  intro pins s σ H D I h
  refine wpAny_execs_cons (thn (h1 pins s σ H D I h) fun f s1 q => ?_)
  cases f with
  | next => exact wpAny_execs_nil q
  | ret v => exact q
  | brk => exact q
  | cont => exact q
theorem Inv.quiet {pins : List (Addr × Obj)} {σ : St} {H : Hp} {s : Shared} (I : Inv X pins σ H s) : interactive X.env = false := by simp [interactive, I.ok.kind]
def tDrop (te : TE) : TS := fun D σ H => te σ H fun _ H1 => D.nx σ H1
theorem ps_expr (he : PE X e te) (hs : swapsWith e none pos.line X.env = pure false := by rfl) : PS X (.Expr e pos) (tDrop te) := by
  intro pins s σ H D I h
  exact wpAny_Expr_any (thn (he pins s σ H _ I h) fun v s1 ⟨x, H1, I1, r1, q1⟩ => ⟨σ, H1, I1, q1⟩) I.quiet hs
def tRet (te : TE) : TS := fun D σ H => te σ H D.rt
theorem ps_ret (he : PE X e te) : PS X (.Return (some e) pos) (tRet te) := by
  intro pins s σ H D I h
  exact wpAny_Return_some (thn (he pins s σ H _ I h) fun v s1 ⟨x, H1, I1, r1, q1⟩ => ⟨x, σ, H1, I1, r1, q1⟩)
def tIfS (c : TT) (t u : TS) : TS := fun D σ H => c σ H fun b H1 => if b = true then t D σ H1 else u D σ H1
theorem ps_if {c : Expr} {a b : List Stmt} {tc : TT} (hc : PT X c tc) (ha : PSs X a t) (hb : PSs X b u) : PS X (.If c a b pos) (tIfS tc t u) := by
  intro pins s σ H D I h
  refine wpAny_If (thn (hc pins s σ H _ I h) fun d s1 ⟨H1, I1, q1⟩ => ?_)
  cases d with
  | true => exact ha pins s1 σ H1 D I1 q1
  | false => exact hb pins s1 σ H1 D I1 q1
def tNever : TS := fun _ _ _ => False
theorem ps_never : PS X st tNever := fun _ _ _ _ _ _ h => h.elim
theorem pss_never {sts : List Stmt} : PSs X sts tNever := fun _ _ _ _ _ _ h => h.elim
end
abbrev TG := V → St → Hp → (St → Hp → Prop) → Prop
abbrev TGs := List V → St → Hp → (St → Hp → Prop) → Prop
def PG (X : Cx) (target : Expr) (t : TG) : Prop :=
  ∀ (pins : List (Addr × Obj)) (s : Shared) (σ : St) (H : Hp) (v : V) (u : Value) (Q : St → Hp → Prop), Inv X pins σ H s → RelV v u → t v σ H Q →
    wpAny (model X.prog X.w) X.A (assign target X.env u) (fun _ s' => ∃ σ' H', Inv X pins σ' H' s' ∧ Q σ' H') X.xe s
def PGs (X : Cx) (ts : List Expr) (t : TGs) : Prop :=
  ∀ (pins : List (Addr × Obj)) (s : Shared) (σ : St) (H : Hp) (vs : List V) (us : List Value) (Q : St → Hp → Prop), Inv X pins σ H s → Vals vs us → t vs σ H Q →
    wpAny (model X.prog X.w) X.A (assignInOrder ((assignEach ts X.env).map (·.2)) us) (fun _ s' => ∃ σ' H', Inv X pins σ' H' s' ∧ Q σ' H') X.xe s
section
variable {X : Cx} {pos : Pos}
def gName (i : Nat) : TG := fun v σ H Q => Q (σ.set i (some v)) H
theorem pg_name {i : Nat} {x : Str} (hN : X.N.Nodup) (hi : X.N[i]? = some x) (hx : Loc X.env.scope x) (hf : X.fn x = true ∨ X.env.scope.names.lookup x = some .local := by first | exact .inl rfl | exact .inr rfl | assumption) : PG X (.Name x pos) (gName i) := by
  intro pins s σ H v u Q I r h
  exact wpAny_assign_Name (store_ok I hN hi hx r (fun s' I' => ⟨_, H, I', h⟩) hf)
def gNil : TGs := fun vs σ H Q => vs = [] ∧ Q σ H
def gCons (t : TG) (u : TGs) : TGs := fun vs σ H Q => ∃ v r, vs = v :: r ∧ t v σ H fun σ' H' => u r σ' H' Q
theorem pgs_nil : PGs X [] gNil := by
  intro pins s σ H vs us Q I r h
  obtain ⟨e, h⟩ := h
  subst e
  cases r
  exact assignInOrder_nil ⟨σ, H, I, h⟩
theorem pgs_cons {e : Expr} {es : List Expr} {t : TG} {u : TGs} (h1 : PG X e t) (h2 : PGs X es u)
    (hs : (assignEach (e :: es) X.env).map (·.2) = assign e X.env :: (assignEach es X.env).map (·.2) := by rfl) : PGs X (e :: es) (gCons t u) := by
  intro pins s σ H vs us Q I r h
  obtain ⟨v, vr, e1, h⟩ := h
  subst e1
  cases r with
  | cons r rr =>
    rw [hs]
    refine assignInOrder_cons (thn (h1 pins s σ H _ _ _ I r h) fun _ s1 ⟨σ1, H1, I1, q1⟩ => ?_)
    exact h2 pins s1 σ1 H1 _ _ Q I1 rr q1
def gTup (K : PySem.W.Frag) (n : Nat) (t : TGs) : TG := fun v σ H Q => ∃ a xs, v = .ref a ∧ SqT K H a xs ∧ xs.length = n ∧ t xs σ H Q
theorem pg_tup {es : List Expr} {k : Nat} {t : TGs} {n : Nat} (hc : X.calm = true) (h : PGs X es t)
    (hn : (assignEach es X.env).length = n := by rfl) (hst : (assignEach es X.env).findIdx? (·.1) = none := by rfl) : PG X (.Tuple es k pos) (gTup X.K n t) := by
  intro pins s σ H v u Q I r hw
  obtain ⟨a, xs, e1, hq, hl, hw⟩ := hw
  subst e1
  cases r
  obtain ⟨its, rv, ht, hz⟩ := I.tuple hq
  refine assign_Tuple_tuple (I.ok.hd hc) ht (by simp [hn, ← hl, rv.length]) hst fun h' hx => ?_
  have I1 : Inv X pins σ H { s with heap := h' } := I.kept (t' := s.toks) fun b o e => hx b o (Nat.ne_of_lt (Heap.lt_size e)) e
  exact h pins _ σ H xs _ Q I1 (by simpa using rv) hw
def tAsg (te : TE) (g : TG) : TS := fun D σ H => te σ H fun x H1 => g x σ H1 D.nx
theorem ps_asg {tg e : Expr} {te : TE} {g : TG} (he : PE X e te) (hg : PG X tg g) (hs : swapsWithSole [tg] e pos.line X.env = pure false := by rfl) (hw : swappedStores [tg] e X.env = pure none := by rfl)
    (h1 : (assignEach [tg] X.env).map (·.2) = [assign tg X.env] := by rfl) : PS X (.Assign [tg] e pos) (tAsg te g) := by
  intro pins s σ H D I h
  refine wpAny_Assign_stores (thn (he pins s σ H _ I h) fun v s1 ⟨x, H1, I1, r1, q1⟩ => ?_) hs hw
  rw [h1]
  exact thn (hg pins s1 σ H1 x v _ I1 r1 q1) fun _ s2 q => q
theorem ps_set {i : Nat} {x : Str} {e : Expr} {te : TE} {pos' : Pos} (hN : X.N.Nodup) (hi : X.N[i]? = some x) (hx : Loc X.env.scope x) (he : PE X e te) (hs : swapsWith e (some (.Name x pos')) pos.line X.env = pure false := by rfl) (hf : X.fn x = true ∨ X.env.scope.names.lookup x = some .local := by first | exact .inl rfl | exact .inr rfl | assumption) :
    PS X (.Assign [.Name x pos'] e pos) (tAsg te (gName i)) := by
  intro pins s σ H D I h
  refine wpAny_Assign_Name (thn (he pins s σ H _ I h) fun v s1 ⟨y, H1, I1, r1, q1⟩ => ?_) hs
  exact store_ok I1 hN hi hx r1 (fun s2 I2 => ⟨_, H1, I2, q1⟩) hf
def tPar (i j : Nat) (ta : TA) : TS := fun D σ H => ta σ H fun vs H1 => ∃ v w, vs = [v, w] ∧ D.nx ((σ.set i (some v)).set j (some w)) H1
theorem ps_par {i j : Nat} {x y : Str} {a b : Expr} {ta : TA} {px py pt : Pos} {kt k2 pt2} (hc : X.calm = true) (hN : X.N.Nodup) (hi : X.N[i]? = some x) (hj : X.N[j]? = some y) (hij : i ≠ j)
    (hx : X.env.scope.names.lookup x = some .local) (hy : X.env.scope.names.lookup y = some .local) (ha : PA X [a, b] ta)
    (hw : swappedStores [.Tuple [.Name x px, .Name y py] kt pt] (.Tuple [a, b] k2 pt2) X.env = pure (some [x, y]))
    (hs : swapsWithSole [.Tuple [.Name x px, .Name y py] kt pt] (.Tuple [a, b] k2 pt2) pos.line X.env = pure false := by rfl) :
    PS X (.Assign [.Tuple [.Name x px, .Name y py] kt pt] (.Tuple [a, b] k2 pt2) pos) (tPar i j ta) := by
  intro pins s σ H D I h
  rw [exec_Assign_arm]
  refine wpAny_bind (wpAny_standAt ?_)
  rw [hs]
  refine wpAny_bind (wpAny_pure ?_)
  rw [if_neg (by decide)]
  refine wpAny_bind (Tuple_ (thn (ha _ pins s σ H _ I h) fun us s1 ⟨vs, H1, I1, r1, q1⟩ => ?_))
  obtain ⟨v, w, e1, q1⟩ := q1
  subst e1
  obtain ⟨u1, u2, rfl, rv, rw'⟩ : ∃ u1 u2, us = [u1, u2] ∧ RelV v u1 ∧ RelV w u2 := by
    cases r1 with
    | cons p q =>
      cases q with
      | cons p' q' =>
        cases q'
        exact ⟨_, _, rfl, p, p'⟩
  refine wpAny_newObj_type ?_ (by show 2 ≤ sizeLine; decide)
  have I2 : Inv X pins σ H1 { s1 with heap := s1.heap.push { cls := .type "tuple", data := .seq [u1, u2].toArray } } := I1.kept (t' := s1.toks) fun b o e => Heap.get?_push_of_some _ e
  rw [hw]
  refine wpAny_bind (wpAny_pure ?_)
  show wpAny (model X.prog X.w) X.A (do rule "assign.swapped-stores"; let items ← unpackItems (.ref s1.heap.objs.size) 2 none; assignInOrder [fun v => bindName X.env y v, fun v => bindName X.env x v] items.reverse; pure Flow.next) _ _ _
  refine wpAny_bind (wpAny_rule (wpAny_bind (unpackItems_tuple (items := #[u1, u2]) (I.ok.hd hc) (IsTup.new s1.heap _) fun h' hx' => ?_)))
  have I3 := I2.kept (h' := h') (t' := s1.toks) fun b o e => hx' b o (Nat.ne_of_lt (Heap.lt_size e)) e
  show wpAny _ _ (assignInOrder [fun v => bindName X.env y v, fun v => bindName X.env x v] [u2, u1] >>= fun _ => pure Flow.next) _ _ _
  refine wpAny_bind (assignInOrder_cons (wpAny_bindName (store_ok I3 hN hj (.inl hy) rw' (fun s2 I4 => ?_) (.inr hy))))
  refine assignInOrder_cons (wpAny_bindName (store_ok I4 hN hi (.inl hx) rv (fun s3 I5 => assignInOrder_nil (wpAny_pure ?_)) (.inr hx)))
  rw [List.set_comm _ _ (Ne.symm hij)] at I5
  exact ⟨_, H1, I5, q1⟩
end
section
variable {X : Cx} {pos : Pos}
def tWhile (c : TT) (tb : TS) : TS := fun D σ H => ∃ W : Nat → St → Hp → Prop, (∃ m, W m σ H) ∧ ∀ m σ H, W m σ H →
  c σ H fun b H1 => if b = true then ∃ N : St → Hp → Prop, (∀ σ' H', N σ' H' → ∃ m', m' < m ∧ W m' σ' H') ∧ tb { D with nx := N, ct := N, bk := D.nx } σ H1 else D.nx σ H1
theorem ps_while {c : Expr} {body : List Stmt} {tc : TT} {tb : TS} (hp : PassesOwn (model X.prog X.w) X.A X.env X.xe) (hc : PT X c tc) (hb : PSs X body tb) : PS X (.While c body [] pos) (tWhile tc tb) := by
  intro pins s σ H D I h
  obtain ⟨W, ⟨m0, w0⟩, turn⟩ := h
  refine wpAny_While (codeAny_whileLoop (fun n s' => ∃ σ' H', Inv X pins σ' H' s' ∧ W n σ' H') ?_ m0 ⟨σ, H, I, w0⟩)
  rintro n s1 ⟨σ1, H1, I1, w1⟩
  refine wpAny_passesOwn hp (thn (hc pins s1 σ1 H1 _ I1 (turn n σ1 H1 w1)) fun b s2 ⟨H2, I2, q2⟩ => ?_)
  cases b with
  | true =>
    obtain ⟨N, hN, q2⟩ := q2
    rw [if_pos rfl]
    refine wpAny_passesOwn hp (thn (hb pins s2 σ1 H2 _ I2 q2) fun f s3 q3 => ?_)
    cases f with
    | next =>
      obtain ⟨σ3, H3, I3, n3⟩ := q3
      obtain ⟨m', hm, w3⟩ := hN σ3 H3 n3
      exact ⟨m', hm, σ3, H3, I3, w3⟩
    | cont =>
      obtain ⟨σ3, H3, I3, n3⟩ := q3
      obtain ⟨m', hm, w3⟩ := hN σ3 H3 n3
      exact ⟨m', hm, σ3, H3, I3, w3⟩
    | brk => exact q3
    | ret v => exact q3
  | false =>
    rw [if_neg Bool.false_ne_true]
    exact wpAny_execs_nil ⟨σ1, H2, I2, q2⟩
end
structure It where
  go : Nat → Hp → Prop
  yld : Nat → Hp → V → Hp → Prop
  stop : Nat → Hp → Prop
def FpOk (X : Cx) (pins : List (Addr × Obj)) (H : Hp) (b : Addr) : Prop :=
  H b = none ∧ b ≠ X.env.locals ∧ b ∉ X.fs ∧ (b ∈ X.ex ∨ X.s₀.heap.objs.size ≤ b) ∧ (∀ x c, X.env.cells.lookup x = some c → c ≠ b) ∧ ∀ p ∈ X.pn ++ pins, p.1 ≠ b
theorem Inv.fpOk {X : Cx} {pins : List (Addr × Obj)} {σ : St} {H H' : Hp} {s : Shared} {b : Addr} (I : Inv X pins σ H s) (hb : s.heap.objs.size ≤ b) (hn : H' b = none) : FpOk X pins H' b := by
  refine ⟨hn, Nat.ne_of_gt (Nat.lt_of_lt_of_le I.lt hb), I.nofs hb, .inr (Nat.le_trans I.sz hb), fun x c e z => ?_, fun p hp z => ?_⟩
  · obtain ⟨v, q⟩ := I.cell x c e
    exact absurd (Nat.lt_of_lt_of_le q.lt (by rw [z]; exact hb)) (Nat.lt_irrefl _)
  · exact absurd (Nat.lt_of_lt_of_le (Heap.lt_size (I.pin p hp).1) (by rw [z]; exact hb)) (Nat.lt_irrefl _)
structure Turn (P : Program) (w : World) (K : PySem.W.Frag) (tg : Expr) (J : It) (fp : List Addr) (it : Addr) (tn : Nat → Heap → Prop) : Prop where
  mem : it ∈ fp
  obj : ∀ i h, tn i h → ∀ b ∈ fp, ∃ o, h.get? b = some o ∧ ∀ v, o.data ≠ .cell v
  keep : ∀ i h h', tn i h → (∀ b ∈ fp, ∀ o, h.get? b = some o → h'.get? b = some o) → tn i h'
  item : ∀ (X : Cx), X.prog = P → X.w = w → X.K = K → X.calm = true → ∀ (i : Nat) (pins : List (Addr × Obj)) (s : Shared) (σ : St) (H : Hp) (E : Value → Shared → Prop), Inv X pins σ H s → (∀ b ∈ fp, FpOk X pins H b) → tn i s.heap → J.go i H →
    wpAny (model P w) X.A (pyNext (.ref it)) (fun r s1 => ∃ u, r = some u ∧
      wpAny (model P w) X.A (letOwnedTupleGo tg (.ref it) u) (fun _ s2 => ∃ x H', Inv X pins σ H' s2 ∧ RelV x u ∧ J.yld i H x H' ∧ tn (i + 1) s2.heap ∧ ∀ b ∈ fp, H' b = none) E s1) E s
  done : ∀ (X : Cx), X.prog = P → X.w = w → X.K = K → X.calm = true → ∀ (i : Nat) (pins : List (Addr × Obj)) (s : Shared) (σ : St) (H : Hp) (E : Value → Shared → Prop), Inv X pins σ H s → (∀ b ∈ fp, FpOk X pins H b) → tn i s.heap → J.stop i H →
    wpAny (model P w) X.A (pyNext (.ref it)) (fun r s1 => r = none ∧ Inv X pins σ H s1) E s
  self : ∀ (A : Around) (i : Nat) (s : Shared) (Q : Value → Shared → Prop) (E : Value → Shared → Prop), tn i s.heap → Q (.ref it) s → wpAny (model P w) A (pyIter (.ref it)) Q E s
abbrev TI := St → Hp → (It → Hp → Prop) → Prop
def PIE (X : Cx) (pins : List (Addr × Obj)) (σ : St) (tg : Expr) (R : It → Hp → Prop) (itv : Value) (s2 : Shared) : Prop :=
  ∃ (it : Addr) (fp : List Addr) (tn : Nat → Heap → Prop) (J : It) (H' : Hp), itv = .ref it ∧ Inv X pins σ H' s2 ∧ Turn X.prog X.w X.K tg J fp it tn ∧ tn 0 s2.heap ∧ (∀ b ∈ fp, FpOk X pins H' b) ∧ R J H'
def PI (X : Cx) (tg iter : Expr) (wi : TI) : Prop :=
  ∀ (pins : List (Addr × Obj)) (s : Shared) (σ : St) (H : Hp) (R : It → Hp → Prop), Inv X pins σ H s → wi σ H R →
    wpAny (model X.prog X.w) X.A (eval iter X.env) (fun v s1 => wpAny (model X.prog X.w) X.A (pyIter v) (PIE X pins σ tg R) X.xe s1) X.xe s
theorem go_of {M : Model} {A : Around} {E : Value → Shared → Prop} {s : Shared} {tg : Expr} {it : Addr} {u : Value} {o : Obj} {n : String} {vs : Array Value} {Q : Unit → Shared → Prop} (ho : s.heap.get? it = some o) (hc : o.cls = .type n) (hd : o.data = .fields vs)
    (hn : ["enumerate", "zip", "dict_itemiterator", "dict_reverseitemiterator", "odict_iterator", "itertools.zip_longest", "itertools.pairwise"].contains n = false) (hQ : Q () s) : wpAny M A (letOwnedTupleGo tg (.ref it) u) Q E s := by
  unfold letOwnedTupleGo
  cases tg <;> first
    | exact wpAny_pure hQ
    | (cases u <;> first
        | exact wpAny_pure hQ
        | (refine wpAny_bind (wpAny_load ho ?_)
           rw [hc, hd]
           show wpAny M A (if (["enumerate", "zip", "dict_itemiterator", "dict_reverseitemiterator", "odict_iterator", "itertools.zip_longest", "itertools.pairwise"].contains n && vs[0]? == some (rawInt _)) = true then _ else _) Q E s
           rw [if_neg (by intro h; rw [hn, Bool.false_and] at h; cases h)]
           exact wpAny_pure hQ))
def Itl (K : PySem.W.Frag) (a : Addr) : It :=
  ⟨fun i H => ∃ xs x, SqL K H a xs ∧ xs[i]? = some x, fun i H x H' => H' = H ∧ ∀ xs, SqL K H a xs → xs[i]? = some x, fun i H => ∃ xs, SqL K H a xs ∧ xs.length ≤ i⟩
def Itt (K : PySem.W.Frag) (a : Addr) : It :=
  ⟨fun i H => ∃ xs x, SqT K H a xs ∧ xs[i]? = some x, fun i H x H' => H' = H ∧ ∀ xs, SqT K H a xs → xs[i]? = some x, fun i H => ∃ xs, SqT K H a xs ∧ xs.length ≤ i⟩
def Itr (lo : Int) (n : Nat) : It := ⟨fun i _ => i < n, fun i H x H' => H' = H ∧ x = .int (lo + i), fun i _ => n ≤ i⟩
theorem turn_list {P : Program} {w : World} {K : PySem.W.Frag} {tg : Expr} (a it : Addr) : Turn P w K tg (Itl K a) [it] it (fun i h => h.IsListIter it a i) where
  mem := by simp
  obj := fun i h st b hb => by
    have e : b = it := by simpa using hb
    subst e
    obtain ⟨o, e, c, d⟩ := st
    exact ⟨o, e, fun v z => by rw [d] at z; cases z⟩
  keep := fun i h h' st k => st.at fun o e => k it (by simp) o e
  item := by
    intro X hP hw hK hc i pins s σ H E I hf st hg
    subst hP hw hK
    obtain ⟨xs, x, hq, hx⟩ := hg
    obtain ⟨its, rv, p, hz⟩ := I.list hq
    obtain ⟨u, hu, ru⟩ := rv.get hx
    obtain ⟨f0, f1, f2, f3, f4, f5⟩ := hf it (by simp)
    refine wpAny_pyNext_list_item st p.isList (x := u) (by simpa using hu) fun h' st' sb => ?_
    have I1 : Inv X pins σ H { s with heap := h' } := I.turned (t' := s.toks) (fun b o hb e => (sb.2 b hb).trans e) f0 f1 f3 f4 f5
    obtain ⟨o, e, c, d⟩ := id st'
    exact ⟨u, rfl, go_of (s := { s with heap := h' }) e c d (by decide) ⟨x, H, I1, ru, ⟨rfl, fun ys hy => by rw [I.list_inj hy hq]; exact hx⟩, st', fun b hb => (hf b hb).1⟩⟩
  done := by
    intro X hP hw hK hc i pins s σ H E I hf st hg
    subst hP hw hK
    obtain ⟨xs, hq, hx⟩ := hg
    obtain ⟨its, rv, p, hz⟩ := I.list hq
    obtain ⟨f0, f1, f2, f3, f4, f5⟩ := hf it (by simp)
    have hl := rv.length
    exact wpAny_pyNext_list_end (I.ok.hd hc) st p.isList (by simp; omega) fun h' eb => ⟨rfl, I.turned (t' := s.toks) (fun b o hb e => eb b o hb e) f0 f1 f3 f4 f5⟩
  self := fun _ _ _ _ _ st h => wpAny_pyIter_listiter st h
theorem turn_tuple {P : Program} {w : World} {K : PySem.W.Frag} {tg : Expr} (a it : Addr) : Turn P w K tg (Itt K a) [it] it (fun i h => h.IsTupleIter it a i) where
  mem := by simp
  obj := fun i h st b hb => by
    have e : b = it := by simpa using hb
    subst e
    obtain ⟨o, e, c, d⟩ := st
    exact ⟨o, e, fun v z => by rw [d] at z; cases z⟩
  keep := fun i h h' st k => st.at fun o e => k it (by simp) o e
  item := by
    intro X hP hw hK hc i pins s σ H E I hf st hg
    subst hP hw hK
    obtain ⟨xs, x, hq, hx⟩ := hg
    obtain ⟨its, rv, p, hz⟩ := I.tuple hq
    obtain ⟨u, hu, ru⟩ := rv.get hx
    obtain ⟨f0, f1, f2, f3, f4, f5⟩ := hf it (by simp)
    refine wpAny_pyNext_tuple_item st (show s.heap.IsTuple a its.toArray from p) (x := u) (by simpa using hu) fun h' st' sb => ?_
    have I1 : Inv X pins σ H { s with heap := h' } := I.turned (t' := s.toks) (fun b o hb e => (sb.2 b hb).trans e) f0 f1 f3 f4 f5
    obtain ⟨o, e, c, d⟩ := id st'
    exact ⟨u, rfl, go_of (s := { s with heap := h' }) e c d (by decide) ⟨x, H, I1, ru, ⟨rfl, fun ys hy => by rw [I.tuple_inj hy hq]; exact hx⟩, st', fun b hb => (hf b hb).1⟩⟩
  done := by
    intro X hP hw hK hc i pins s σ H E I hf st hg
    subst hP hw hK
    obtain ⟨xs, hq, hx⟩ := hg
    obtain ⟨its, rv, p, hz⟩ := I.tuple hq
    obtain ⟨f0, f1, f2, f3, f4, f5⟩ := hf it (by simp)
    have hl := rv.length
    exact wpAny_pyNext_tuple_end (I.ok.hd hc) st (show s.heap.IsTuple a its.toArray from p) (by simp; omega) fun h' eb => ⟨rfl, I.turned (t' := s.toks) (fun b o hb e => eb b o hb e) f0 f1 f3 f4 f5⟩
  self := fun _ _ _ _ _ st h => wpAny_pyIter_tupleiter st h
theorem turn_range {P : Program} {w : World} {K : PySem.W.Frag} {tg : Expr} (it : Addr) (lo : Int) (n : Nat) : Turn P w K tg (Itr lo n) [it] it (fun i h => IsRangeIter h it (lo + (i : Nat) * 1) ((n : Int) - (i : Nat)) 1) where
  mem := by simp
  obj := fun i h st b hb => by
    have e : b = it := by simpa using hb
    subst e
    exact ⟨_, st, fun v z => by
      have z' : Data.fields _ = Data.cell v := z
      cases z'⟩
  keep := fun i h h' st k => k it (by simp) _ st
  item := by
    intro X hP hw hK hc i pins s σ H E I hf st hg
    subst hP hw hK
    obtain ⟨f0, f1, f2, f3, f4, f5⟩ := hf it (by simp)
    have W := Walks.range (prog := X.prog) (w := X.w) (I.ok.hd hc) it lo 1 n
    refine W.item i s _ _ hg st fun v h' tk hv st' kk => ?_
    obtain ⟨t, rfl⟩ := hv
    have I1 : Inv X pins σ H { s with heap := h', toks := tk } := I.turned (fun b o hb e => kk b o (by simpa using hb) e) f0 f1 f3 f4 f5
    refine ⟨_, rfl, go_of (s := { s with heap := h', toks := tk }) (n := "range_iterator") st' rfl rfl (by decide) ⟨.int (lo + i), H, I1, ⟨t, ?_⟩, ⟨rfl, rfl⟩, st', fun b hb => (hf b hb).1⟩⟩
    rw [Int.mul_one]
  done := by
    intro X hP hw hK hc i pins s σ H E I hf st hg
    subst hP hw hK
    obtain ⟨f0, f1, f2, f3, f4, f5⟩ := hf it (by simp)
    exact wpAny_pyNext_range_end (I.ok.hd hc) st (by have : n ≤ i := hg; omega) fun h' eb => ⟨rfl, I.turned (t' := s.toks) (fun b o hb e => eb b o hb e) f0 f1 f3 f4 f5⟩
  self := fun _ _ _ _ _ st h => wpAny_pyIter_rangeiter st h
end L2
namespace L2
open PySem PySem.Spec PyProof.Rows
section
variable {X : Cx} {tg : Expr}
def iList (K : PySem.W.Frag) (tl : TE) : TI := fun σ H R => tl σ H fun x H1 => ∃ a, x = .ref a ∧ (∃ xs, SqL K H1 a xs) ∧ R (Itl K a) H1
def iTup (K : PySem.W.Frag) (tl : TE) : TI := fun σ H R => tl σ H fun x H1 => ∃ a, x = .ref a ∧ (∃ xs, SqT K H1 a xs) ∧ R (Itt K a) H1
theorem pi_list {l : Expr} {tl : TE} (hl : PE X l tl) : PI X tg l (iList X.K tl) := by
  intro pins s σ H R I h
  refine thn (hl pins s σ H _ I h) fun v s1 ⟨x, H1, I1, r1, q1⟩ => ?_
  obtain ⟨a, e, ⟨xs, hq⟩, q⟩ := q1
  subst e
  cases r1
  obtain ⟨its, rv, p, hz⟩ := I1.list hq
  refine wpAny_pyIter_list p.isList ?_
  refine ⟨s1.heap.objs.size, [s1.heap.objs.size], _, _, H1, rfl, I1.kept (t' := s1.toks) fun b o e => Heap.get?_push_of_some _ e, turn_list a _, ⟨_, Heap.get?_push_size _ rfl, rfl, rfl⟩, fun b hb => ?_, q⟩
  have e : b = s1.heap.objs.size := by simpa using hb
  subst e
  exact I1.fpOk (Nat.le_refl _) (I1.hok.fresh (Nat.le_refl _))
theorem pi_tup {l : Expr} {tl : TE} (hl : PE X l tl) : PI X tg l (iTup X.K tl) := by
  intro pins s σ H R I h
  refine thn (hl pins s σ H _ I h) fun v s1 ⟨x, H1, I1, r1, q1⟩ => ?_
  obtain ⟨a, e, ⟨xs, hq⟩, q⟩ := q1
  subst e
  cases r1
  obtain ⟨its, rv, p, hz⟩ := I1.tuple hq
  refine wpAny_pyIter_tuple (show s1.heap.IsTuple a its.toArray from p) ?_
  refine ⟨s1.heap.objs.size, [s1.heap.objs.size], _, _, H1, rfl, I1.kept (t' := s1.toks) fun b o e => Heap.get?_push_of_some _ e, turn_tuple a _, ⟨_, Heap.get?_push_size _ rfl, rfl, rfl⟩, fun b hb => ?_, q⟩
  have e : b = s1.heap.objs.size := by simpa using hb
  subst e
  exact I1.fpOk (Nat.le_refl _) (I1.hok.fresh (Nat.le_refl _))
theorem range_it {pins : List (Addr × Obj)} {σ : St} {H : Hp} {s : Shared} {R : It → Hp → Prop} {E : Value → Shared → Prop} {lo hi : Int} {t u v : Tok} {tk : Nat} (I : Inv X pins σ H s) (h1 : -(2 ^ 62) ≤ lo) (h2 : lo < 2 ^ 62) (h3 : -(2 ^ 62) ≤ hi) (h4 : hi < 2 ^ 62)
    (q : R (Itr lo (hi - lo).toNat) H) : wpAny (model X.prog X.w) X.A (pyIter (.ref s.heap.objs.size)) (PIE X pins σ tg R) E { s with heap := s.heap.push { cls := .type "range", data := .fields #[.int lo t, .int hi u, .int 1 v] }, toks := tk } := by
  refine wpAny_pyIter_range (IsRange.new ..) (small_one h1 h2 h3 h4) ?_
  have I1 : Inv X pins σ H { s with heap := s.heap.push { cls := .type "range", data := .fields #[.int lo t, .int hi u, .int 1 v] }, toks := tk } := I.kept fun b o e => Heap.get?_push_of_some _ e
  refine ⟨(s.heap.push { cls := .type "range", data := .fields #[.int lo t, .int hi u, .int 1 v] }).objs.size, [(s.heap.push { cls := .type "range", data := .fields #[.int lo t, .int hi u, .int 1 v] }).objs.size], _, _, H, rfl,
    I1.kept (t' := tk) fun b o e => Heap.get?_push_of_some _ e, turn_range _ lo (hi - lo).toNat, ?_, fun b hb => ?_, q⟩
  · have e1 : lo + ((0 : Nat) : Int) * 1 = lo := by simp
    have e2 : (((hi - lo).toNat : Nat) : Int) - ((0 : Nat) : Int) = Builtin.Range.rangeSize lo hi 1 := by rw [rangeSize_one]; split <;> omega
    show IsRangeIter _ _ (lo + ((0 : Nat) : Int) * 1) ((((hi - lo).toNat : Nat) : Int) - ((0 : Nat) : Int)) 1
    rw [e1, e2]
    exact Heap.get?_push_size _ rfl
  · have e : b = (s.heap.push { cls := .type "range", data := .fields #[.int lo t, .int hi u, .int 1 v] }).objs.size := by simpa using hb
    subst e
    exact I1.fpOk (Nat.le_refl _) (I1.hok.fresh (Nat.le_refl _))
def iRng1 (ta : TA) : TI := fun σ H R => ta σ H fun vs H1 => ∃ j : Int, vs = [.int j] ∧ -(2 ^ 62) ≤ j ∧ j < 2 ^ 62 ∧ R (Itr 0 j.toNat) H1
def iRng2 (ta : TA) : TI := fun σ H R => ta σ H fun vs H1 => ∃ i j : Int, vs = [.int i, .int j] ∧ (-(2 ^ 62) ≤ i ∧ i < 2 ^ 62 ∧ -(2 ^ 62) ≤ j ∧ j < 2 ^ 62) ∧ R (Itr i (j - i).toNat) H1
theorem pi_range1 {a : Expr} {ta : TA} {p pos : Pos} (hg : Gl X "range") (hm : X.mg "range" = none) (ha : PA X [a] ta) (hs : starEach [a] X.env = [(false, eval a X.env)] := by rfl) : PI X tg (.Call (.Name "range" p) [a] [] pos) (iRng1 ta) := by
  intro pins s σ H R I h
  refine Call_ (ld_blt I hg hm boot_range (PyProof.Rows.callWith_type1 (thn (ha pos pins s σ H _ I h) fun us s1 ⟨vs, H1, I1, r1, q1⟩ => ?_) hs rfl))
  obtain ⟨j, e, q1, q2, q⟩ := q1
  subst e
  cases r1 with
  | cons r rr =>
    cases rr
    obtain ⟨t, rfl⟩ := r
    exact call_range_1 (range_it I1 (by omega) (by omega) q1 q2 (by simpa using q))
theorem pi_range2 {a b : Expr} {ta : TA} {p pos : Pos} (hg : Gl X "range") (hm : X.mg "range" = none) (ha : PA X [a, b] ta) (hs : starEach [a, b] X.env = [(false, eval a X.env), (false, eval b X.env)] := by rfl) (hs2 : starEach [b] X.env = [(false, eval b X.env)] := by rfl) :
    PI X tg (.Call (.Name "range" p) [a, b] [] pos) (iRng2 ta) := by
  intro pins s σ H R I h
  refine Call_ (ld_blt I hg hm boot_range (PyProof.Rows.callWith_type1 (thn (ha pos pins s σ H _ I h) fun us s1 ⟨vs, H1, I1, r1, q1⟩ => ?_) (by rw [hs, hs2]) (by rw [hs2]; rfl)))
  obtain ⟨i, j, e, ⟨q1, q2, q3, q4⟩, q⟩ := q1
  subst e
  cases r1 with
  | cons r rr =>
    cases rr with
    | cons r' rr =>
      cases rr
      obtain ⟨t, rfl⟩ := r
      obtain ⟨t', rfl⟩ := r'
      exact call_range_2 (range_it I1 q1 q2 q3 q4 q)
def tFor (wi : TI) (g : TG) (tb : TS) : TS := fun D σ H => wi σ H fun J H1 => ∃ W : Nat → Nat → St → Hp → Prop, (∃ m, W 0 m σ H1) ∧ ∀ i m σ H, W i m σ H →
  (J.stop i H ∧ D.nx σ H) ∨ (J.go i H ∧ ∃ N : St → Hp → Prop, (∀ σ' H', N σ' H' → ∃ m', m' < m ∧ W (i + 1) m' σ' H') ∧ ∀ x H', J.yld i H x H' → g x σ H' fun σ2 H2 => tb { D with nx := N, ct := N, bk := D.nx } σ2 H2)
def pinsAt (fp : List Addr) (h : Heap) : List (Addr × Obj) := fp.filterMap fun b => (h.get? b).map fun o => (b, o)
theorem mem_pinsAt {fp : List Addr} {h : Heap} {b : Addr} {o : Obj} (hb : b ∈ fp) (e : h.get? b = some o) : (b, o) ∈ pinsAt fp h := List.mem_filterMap.mpr ⟨b, hb, by rw [e]; rfl⟩
theorem of_pinsAt {fp : List Addr} {h : Heap} {p : Addr × Obj} (hp : p ∈ pinsAt fp h) : p.1 ∈ fp ∧ h.get? p.1 = some p.2 := by
  obtain ⟨b, hb, e⟩ := List.mem_filterMap.mp hp
  cases q : h.get? b with
  | none => rw [q] at e; cases e
  | some o =>
    rw [q] at e
    have e' : (b, o) = p := Option.some.inj e
    subst e'
    exact ⟨hb, q⟩
theorem Inv.pinned {pins : List (Addr × Obj)} {σ : St} {H : Hp} {s : Shared} {fp : List Addr} (I : Inv X pins σ H s) (hf : ∀ b ∈ fp, FpOk X pins H b) (ho : ∀ b ∈ fp, ∃ o, s.heap.get? b = some o ∧ ∀ v, o.data ≠ .cell v) : Inv X (pins ++ pinsAt fp s.heap) σ H s :=
  I.pins_of fun p hp => (List.mem_append.mp hp).elim (fun z => I.pin p (List.mem_append_right _ z)) fun z => by
    obtain ⟨hb, e⟩ := of_pinsAt z
    obtain ⟨f0, f1, f2, _⟩ := hf p.1 hb
    obtain ⟨o, e', d⟩ := ho p.1 hb
    rw [e] at e'; cases e'
    exact ⟨e, f0, f1, f2, d⟩
theorem Inv.unpinned {pins pl : List (Addr × Obj)} {σ : St} {H : Hp} {s : Shared} (I : Inv X (pins ++ pl) σ H s) : Inv X pins σ H s := I.pins_of fun p hp => I.pin p (List.mem_append_right _ (List.mem_append_left _ hp))
theorem ps_for {iter : Expr} {body : List Stmt} {wi : TI} {g : TG} {tb : TS} {pos : Pos} (hp : PassesOwn (model X.prog X.w) X.A X.env X.xe) (hc : X.calm = true) (hi : PI X tg iter wi) (hg : PG X tg g) (hb : PSs X body tb)
    (hs : ∀ x, foldedSetIterable iter X.env x = pure x := by intro _; rfl) : PS X (.For tg iter body [] pos) (tFor wi g tb) := by
  intro pins s σ H D I h
  refine wpAny_For (thn (hi pins s σ H _ I h) fun v s1 h1 => thn h1 fun itv s2 h2 => ?_) hs
  obtain ⟨it, fp, tn, J, H2, e, I2, T, st2, f2, W, ⟨m0, w0⟩, turn⟩ := h2
  subst e
  have stat : ∀ {H' : Hp}, (∀ b ∈ fp, H' b = none) → ∀ b ∈ fp, FpOk X pins H' b := fun hn b hb => ⟨hn b hb, (f2 b hb).2⟩
  refine codeAny_forLoop_any (fun n s' => ∃ i σ' H', Inv X pins σ' H' s' ∧ tn i s'.heap ∧ (∀ b ∈ fp, H' b = none) ∧ W i n σ' H') ?_ m0 ⟨0, σ, H2, I2, st2, fun b hb => (f2 b hb).1, w0⟩
  rintro n s3 ⟨i, σ3, H3, I3, st3, fr3, w3⟩
  rcases turn i n σ3 H3 w3 with ⟨stop, qn⟩ | ⟨go, N, hN, step⟩
  · refine wpAny_passesOwn hp (thn (T.done X rfl rfl rfl hc i pins s3 σ3 H3 X.xe I3 (stat fr3) st3 stop) fun r s4 ⟨hr, I4⟩ => ?_)
    subst hr
    exact wpAny_execs_nil ⟨σ3, H3, I4, qn⟩
  · refine wpAny_passesOwn hp (thn (T.item X rfl rfl rfl hc i pins s3 σ3 H3 X.xe I3 (stat fr3) st3 go) fun r s4 ⟨u, hr, h4⟩ => ?_)
    subst hr
    refine wpAny_passesOwn hp (thn h4 fun _ s5 ⟨x, H5, I5, r5, y5, st5, fr5⟩ => ?_)
    have I5' := I5.pinned (stat fr5) (T.obj _ _ st5)
    refine wpAny_passesOwn hp (thn (hg _ s5 σ3 H5 x u _ I5' r5 (step x H5 y5)) fun _ s6 ⟨σ6, H6, I6, q6⟩ => ?_)
    refine wpAny_passesOwn hp (thn (hb _ s6 σ6 H6 _ I6 q6) fun f s7 q7 => ?_)
    have again : ∀ {σ7 : St} {H7 : Hp}, Inv X (pins ++ pinsAt fp s5.heap) σ7 H7 s7 → N σ7 H7 → ∃ m, m < n ∧ ∃ i σ' H', Inv X pins σ' H' s7 ∧ tn i s7.heap ∧ (∀ b ∈ fp, H' b = none) ∧ W i m σ' H' := fun {σ7 H7} I7 n7 => by
      obtain ⟨m', hm, w7⟩ := hN σ7 H7 n7
      refine ⟨m', hm, i + 1, σ7, H7, I7.unpinned, T.keep _ _ _ st5 fun b hb o e => (I7.pin (b, o) (List.mem_append_right _ (List.mem_append_right _ (mem_pinsAt hb e)))).1, fun b hb => ?_, w7⟩
      obtain ⟨o, e, d⟩ := T.obj _ _ st5 b hb
      exact (I7.pin (b, o) (List.mem_append_right _ (List.mem_append_right _ (mem_pinsAt hb e)))).2.1
    cases f with
    | next => obtain ⟨σ7, H7, I7, n7⟩ := q7; exact again I7 n7
    | cont => obtain ⟨σ7, H7, I7, n7⟩ := q7; exact again I7 n7
    | brk => obtain ⟨σ7, H7, I7, q7⟩ := q7; exact ⟨σ7, H7, I7.unpinned, q7⟩
    | ret v => obtain ⟨x7, σ7, H7, I7, r7, q7⟩ := q7; exact ⟨x7, σ7, H7, I7.unpinned, r7, q7⟩
end
theorem for_list {K : PySem.W.Frag} {a : Addr} {xs : List V} {g : TG} {tb : TS} {D : Ends} {σ : St} {H : Hp} (Pv : Nat → St → Hp → Prop) (h0 : Pv 0 σ H) (hl : ∀ i σ H, i ≤ xs.length → Pv i σ H → SqL K H a xs)
    (hs : ∀ i x σ H, xs[i]? = some x → Pv i σ H → g x σ H fun σ2 H2 => tb { D with nx := Pv (i + 1), ct := Pv (i + 1), bk := D.nx } σ2 H2) (hd : ∀ σ H, Pv xs.length σ H → D.nx σ H) :
    ∃ W : Nat → Nat → St → Hp → Prop, (∃ m, W 0 m σ H) ∧ ∀ i m σ H, W i m σ H →
      ((Itl K a).stop i H ∧ D.nx σ H) ∨ ((Itl K a).go i H ∧ ∃ N : St → Hp → Prop, (∀ σ' H', N σ' H' → ∃ m', m' < m ∧ W (i + 1) m' σ' H') ∧ ∀ x H', (Itl K a).yld i H x H' → g x σ H' fun σ2 H2 => tb { D with nx := N, ct := N, bk := D.nx } σ2 H2) := by
  refine ⟨fun i m σ H => m = xs.length - i ∧ i ≤ xs.length ∧ Pv i σ H, ⟨xs.length, by simp, Nat.zero_le _, h0⟩, ?_⟩
  rintro i m σ H ⟨rfl, hi, p⟩
  have q := hl i σ H hi p
  by_cases hlt : i < xs.length
  · refine .inr ⟨⟨xs, xs[i], q, by simp [hlt]⟩, Pv (i + 1), fun σ' H' p' => ⟨xs.length - (i + 1), by omega, rfl, hlt, p'⟩, fun x H' y => ?_⟩
    obtain ⟨e, y⟩ := y
    subst e
    exact hs i x σ _ (y xs q) p
  · have e : i = xs.length := by omega
    subst e
    exact .inl ⟨⟨xs, q, Nat.le_refl _⟩, hd σ H p⟩
theorem for_tup {K : PySem.W.Frag} {a : Addr} {xs : List V} {g : TG} {tb : TS} {D : Ends} {σ : St} {H : Hp} (Pv : Nat → St → Hp → Prop) (h0 : Pv 0 σ H) (hl : ∀ i σ H, i ≤ xs.length → Pv i σ H → SqT K H a xs)
    (hs : ∀ i x σ H, xs[i]? = some x → Pv i σ H → g x σ H fun σ2 H2 => tb { D with nx := Pv (i + 1), ct := Pv (i + 1), bk := D.nx } σ2 H2) (hd : ∀ σ H, Pv xs.length σ H → D.nx σ H) :
    ∃ W : Nat → Nat → St → Hp → Prop, (∃ m, W 0 m σ H) ∧ ∀ i m σ H, W i m σ H →
      ((Itt K a).stop i H ∧ D.nx σ H) ∨ ((Itt K a).go i H ∧ ∃ N : St → Hp → Prop, (∀ σ' H', N σ' H' → ∃ m', m' < m ∧ W (i + 1) m' σ' H') ∧ ∀ x H', (Itt K a).yld i H x H' → g x σ H' fun σ2 H2 => tb { D with nx := N, ct := N, bk := D.nx } σ2 H2) := by
  refine ⟨fun i m σ H => m = xs.length - i ∧ i ≤ xs.length ∧ Pv i σ H, ⟨xs.length, by simp, Nat.zero_le _, h0⟩, ?_⟩
  rintro i m σ H ⟨rfl, hi, p⟩
  have q := hl i σ H hi p
  by_cases hlt : i < xs.length
  · refine .inr ⟨⟨xs, xs[i], q, by simp [hlt]⟩, Pv (i + 1), fun σ' H' p' => ⟨xs.length - (i + 1), by omega, rfl, hlt, p'⟩, fun x H' y => ?_⟩
    obtain ⟨e, y⟩ := y
    subst e
    exact hs i x σ _ (y xs q) p
  · have e : i = xs.length := by omega
    subst e
    exact .inl ⟨⟨xs, q, Nat.le_refl _⟩, hd σ H p⟩
theorem for_range {lo : Int} {n : Nat} {g : TG} {tb : TS} {D : Ends} {σ : St} {H : Hp} (Pv : Nat → St → Hp → Prop) (h0 : Pv 0 σ H)
    (hs : ∀ i σ H, i < n → Pv i σ H → g (.int (lo + i)) σ H fun σ2 H2 => tb { D with nx := Pv (i + 1), ct := Pv (i + 1), bk := D.nx } σ2 H2) (hd : ∀ σ H, Pv n σ H → D.nx σ H) :
    ∃ W : Nat → Nat → St → Hp → Prop, (∃ m, W 0 m σ H) ∧ ∀ i m σ H, W i m σ H →
      ((Itr lo n).stop i H ∧ D.nx σ H) ∨ ((Itr lo n).go i H ∧ ∃ N : St → Hp → Prop, (∀ σ' H', N σ' H' → ∃ m', m' < m ∧ W (i + 1) m' σ' H') ∧ ∀ x H', (Itr lo n).yld i H x H' → g x σ H' fun σ2 H2 => tb { D with nx := N, ct := N, bk := D.nx } σ2 H2) := by
  refine ⟨fun i m σ H => m = n - i ∧ i ≤ n ∧ Pv i σ H, ⟨n, by simp, Nat.zero_le _, h0⟩, ?_⟩
  rintro i m σ H ⟨rfl, hi, p⟩
  by_cases hlt : i < n
  · refine .inr ⟨hlt, Pv (i + 1), fun σ' H' p' => ⟨n - (i + 1), by omega, rfl, hlt, p'⟩, fun x H' y => ?_⟩
    obtain ⟨e, y⟩ := y
    subst e y
    exact hs i σ _ hlt p
  · have e : i = n := by omega
    subst e
    exact .inl ⟨Nat.le_refl _, hd σ H p⟩
theorem while_by {c : TT} {tb : TS} {D : Ends} {σ : St} {H : Hp} (Pv : St → Hp → Prop) (μ : St → Hp → Nat) (h0 : Pv σ H)
    (hs : ∀ σ H, Pv σ H → c σ H fun b H1 => if b = true then tb { D with nx := fun σ' H' => Pv σ' H' ∧ μ σ' H' < μ σ H, ct := fun σ' H' => Pv σ' H' ∧ μ σ' H' < μ σ H, bk := D.nx } σ H1 else D.nx σ H1)
    (mono : ∀ σ H Q Q', (∀ b H1, Q b H1 → Q' b H1) → c σ H Q → c σ H Q') : tWhile c tb D σ H := by
  refine ⟨fun m σ H => m = μ σ H ∧ Pv σ H, ⟨_, rfl, h0⟩, ?_⟩
  rintro m σ H ⟨rfl, p⟩
  refine mono σ H _ _ (fun b H1 q => ?_) (hs σ H p)
  cases b with
  | true => exact ⟨_, fun σ' H' ⟨p', l⟩ => ⟨_, l, rfl, p'⟩, q⟩
  | false => exact q
end L2
namespace L2
open PySem PySem.Spec PyProof.Rows
abbrev R2 := V → V → Hp → VK → Prop
def OpR (X : Cx) (f : Value → Value → Sem Value) (r : R2) : Prop :=
  ∀ (pins : List (Addr × Obj)) (s : Shared) (σ : St) (H : Hp) (x y : V) (v u : Value) (Q : VK), Inv X pins σ H s → RelV x v → RelV y u → r x y H Q →
    wpAny (model X.prog X.w) X.A (f v u) (EP X pins σ Q) X.xe s
def UnR (X : Cx) (f : Value → Sem Value) (r : V → Hp → VK → Prop) : Prop :=
  ∀ (pins : List (Addr × Obj)) (s : Shared) (σ : St) (H : Hp) (x : V) (v : Value) (Q : VK), Inv X pins σ H s → RelV x v → r x H Q →
    wpAny (model X.prog X.w) X.A (f v) (EP X pins σ Q) X.xe s
def CallR (X : Cx) (f : Value) (r : List V → Hp → VK → Prop) : Prop :=
  ∀ (pins : List (Addr × Obj)) (s : Shared) (σ : St) (H : Hp) (xs : List V) (us : List Value) (Q : VK), Inv X pins σ H s → Vals xs us → r xs H Q →
    wpAny (model X.prog X.w) X.A (call f us) (EP X pins σ Q) X.xe s
def tOp (r : R2) (ta tb : TE) : TE := fun σ H Q => ta σ H fun x H1 => tb σ H1 fun y H2 => r x y H2 Q
def tUn (r : V → Hp → VK → Prop) (ta : TE) : TE := fun σ H Q => ta σ H fun x H1 => r x H1 Q
def rI (C : Int → Int → Prop) (g : Int → Int → V) : R2 := fun x y H Q => ∃ i j, x = .int i ∧ y = .int j ∧ C i j ∧ Q (g i j) H
def rI0 (g : Int → Int → V) : R2 := fun x y H Q => ∃ i j, x = .int i ∧ y = .int j ∧ Q (g i j) H
def rU (g : Int → V) : V → Hp → VK → Prop := fun x H Q => ∃ i, x = .int i ∧ Q (g i) H
section
variable {X : Cx} {a b c : Expr} {ta tb tc : TE} {pos : Pos}
theorem binT (ha : PE X a ta) (hb : PE X b tb) {pins : List (Addr × Obj)} {s : Shared} {σ : St} {H : Hp} {R : V → V → Hp → Prop} (I : Inv X pins σ H s)
    (h : ta σ H fun x H1 => tb σ H1 fun y H2 => R x y H2) {Q : Value → Shared → Prop} {f : Value → Value → Sem Value}
    (hf : ∀ v u s2 x y H2, Inv X pins σ H2 s2 → RelV x v → RelV y u → R x y H2 → wpAny (model X.prog X.w) X.A (f v u) Q X.xe s2) :
    wpAny (model X.prog X.w) X.A (eval a X.env) (fun v s₁ => wpAny (model X.prog X.w) X.A (eval b X.env) (fun u s₂ => wpAny (model X.prog X.w) X.A (f v u) Q X.xe s₂) X.xe s₁) X.xe s := by
  refine thn (ha pins s σ H _ I h) fun v s1 ⟨x, H1, I1, r1, q1⟩ => ?_
  refine thn (hb pins s1 σ H1 _ I1 q1) fun u s2 ⟨y, H2, I2, r2, q2⟩ => ?_
  exact hf v u s2 x y H2 I2 r1 r2 q2
theorem pe_op {op : Operator} {r : R2} (ho : OpR X (binaryOp op) r) (ha : PE X a ta) (hb : PE X b tb) : PE X (.BinOp a op b pos) (tOp r ta tb) := by
  intro pins s σ H Q I h
  exact wpAny_BinOp (binT ha hb I h fun v u s2 x y H2 I2 rx ry q => ho pins s2 σ H2 x y v u Q I2 rx ry q)
theorem pe_un {op : UnaryOp} {r : V → Hp → VK → Prop} (ho : UnR X (unaryOp op) r) (ha : PE X a ta) : PE X (.UnaryOp op a pos) (tUn r ta) := by
  intro pins s σ H Q I h
  exact UnaryOp_ (thn (ha pins s σ H _ I h) fun v s1 ⟨x, H1, I1, r1, q1⟩ => ho pins s1 σ H1 x v Q I1 r1 q1)
theorem opI {f : Value → Value → Sem Value} {C : Int → Int → Prop} {g : Int → Int → Int}
    (rule : ∀ (i j : Int) (t u : Tok) (s : Shared) (Q : Value → Shared → Prop) (E : Value → Shared → Prop), C i j → Q (.int (g i j) s.toks) { s with toks := s.toks + 1 } → wpAny (model X.prog X.w) X.A (f (.int i t) (.int j u)) Q E s) :
    OpR X f (rI C fun i j => .int (g i j)) := by
  intro pins s σ H x y v u Q I rx ry h
  obtain ⟨i, j, rfl, rfl, hc, q⟩ := h
  obtain ⟨t, rfl⟩ := rx
  obtain ⟨t', rfl⟩ := ry
  exact rule i j t t' s _ _ hc ⟨.int (g i j), H, I.tok _, ⟨_, rfl⟩, q⟩
theorem opI0 {f : Value → Value → Sem Value} {g : Int → Int → Int}
    (rule : ∀ (i j : Int) (t u : Tok) (s : Shared) (Q : Value → Shared → Prop) (E : Value → Shared → Prop), Q (.int (g i j) s.toks) { s with toks := s.toks + 1 } → wpAny (model X.prog X.w) X.A (f (.int i t) (.int j u)) Q E s) :
    OpR X f (rI0 fun i j => .int (g i j)) := by
  intro pins s σ H x y v u Q I rx ry h
  obtain ⟨i, j, rfl, rfl, q⟩ := h
  obtain ⟨t, rfl⟩ := rx
  obtain ⟨t', rfl⟩ := ry
  exact rule i j t t' s _ _ ⟨.int (g i j), H, I.tok _, ⟨_, rfl⟩, q⟩
theorem opB0 {f : Value → Value → Sem Value} {g : Int → Int → Bool}
    (rule : ∀ (i j : Int) (t u : Tok) (s : Shared) (Q : Value → Shared → Prop) (E : Value → Shared → Prop), Q (.bool (g i j)) s → wpAny (model X.prog X.w) X.A (f (.int i t) (.int j u)) Q E s) :
    OpR X f (rI0 fun i j => .bl (g i j)) := by
  intro pins s σ H x y v u Q I rx ry h
  obtain ⟨i, j, rfl, rfl, q⟩ := h
  obtain ⟨t, rfl⟩ := rx
  obtain ⟨t', rfl⟩ := ry
  exact rule i j t t' s _ _ ⟨.bl (g i j), H, I, rfl, q⟩
def CDiv (i j : Int) : Prop := 0 < j ∧ j < 1073741824
def CPow (i j : Int) : Prop := 0 ≤ j ∧ j ≤ 1000000 ∧ i.natAbs < 2 ^ 64
def CMul (i j : Int) : Prop := (-(2 ^ 64) < i ∧ i < 2 ^ 64) ∨ (-(2 ^ 64) < j ∧ j < 2 ^ 64)
theorem CMul.ok {i j : Int} (h : CMul i j) : IntMulOk i j := by
  rcases h with ⟨h1, h2⟩ | ⟨h1, h2⟩
  · exact .of_left (intBits_le_64 h1 h2)
  · exact .of_right (intBits_le_64 h1 h2)
theorem op_add : OpR X (binaryOp .Add) (rI0 fun i j => .int (i + j)) := opI0 fun _ _ _ _ _ _ _ q => add_int q
theorem op_sub : OpR X (binaryOp .Sub) (rI0 fun i j => .int (i - j)) := opI0 fun _ _ _ _ _ _ _ q => sub_int q
theorem op_mul : OpR X (binaryOp .Mult) (rI CMul fun i j => .int (i * j)) := opI fun _ _ _ _ _ _ _ hc q => mul_int q hc.ok
theorem op_fdiv : OpR X (binaryOp .FloorDiv) (rI CDiv fun i j => .int (i / j)) := opI fun i j _ _ _ _ _ hc q => by
  have h1 : (0 : Int) < j := hc.1
  have h2 : j < 1073741824 := hc.2
  exact floordiv_int (by omega) (by rw [Int.fdiv_eq_ediv_of_nonneg i (by omega)]; exact q) (.inl (PyProof.noPylong_small (by omega)))
theorem op_mod : OpR X (binaryOp .Mod) (rI (fun _ j => 0 < j) fun i j => .int (i % j)) := opI fun i j _ _ _ _ _ hc q => by
  have h1 : (0 : Int) < j := hc
  exact mod_int' (by omega) (by rw [Int.fmod_eq_emod_of_nonneg i (by omega)]; exact q)
theorem op_pow : OpR X (binaryOp .Pow) (rI CPow fun i j => .int (i ^ j.toNat)) := opI fun _ _ _ _ _ _ _ hc q => pow_int_small hc.1 hc.2.1 hc.2.2 q
theorem unI {f : Value → Sem Value} {g : Int → Int}
    (rule : ∀ (i : Int) (t : Tok) (s : Shared) (Q : Value → Shared → Prop) (E : Value → Shared → Prop), Q (.int (g i) s.toks) { s with toks := s.toks + 1 } → wpAny (model X.prog X.w) X.A (f (.int i t)) Q E s) :
    UnR X f (rU fun i => .int (g i)) := by
  intro pins s σ H x v Q I rx h
  obtain ⟨i, rfl, q⟩ := h
  obtain ⟨t, rfl⟩ := rx
  exact rule i t s _ _ ⟨.int (g i), H, I.tok _, ⟨_, rfl⟩, q⟩
theorem un_neg : UnR X (unaryOp .USub) (rU fun i => .int (-i)) := unI fun _ _ _ _ _ q => neg_int q
end
def scal : V → V → Bool
  | .non, .non => true | .non, .int _ => true | .int _, .non => true | .non, .bl _ => true | .bl _, .non => true | .non, .str _ => true | .str _, .non => true
  | .int _, .int _ => true | .bl _, .bl _ => true | .str _, .str _ => true | .byt _, .byt _ => true
  | .int _, .str _ => true | .str _, .int _ => true | .bl _, .str _ => true | .str _, .bl _ => true
  | _, _ => false
def rEq : R2 := fun x y H Q => scal x y = true ∧ Q (.bl (decide (x = y))) H
def rNe : R2 := fun x y H Q => scal x y = true ∧ Q (.bl (!decide (x = y))) H
theorem dec_int {i j : Int} : decide (V.int i = V.int j) = (i == j) := by
  rw [Bool.eq_iff_iff]
  simp
theorem dec_bl {i j : Bool} : decide (V.bl i = V.bl j) = (i == j) := by
  rw [Bool.eq_iff_iff]
  simp
theorem dec_str {i j : Str} : decide (V.str i = V.str j) = (i == j) := by
  rw [Bool.eq_iff_iff]
  simp
theorem dec_byt {i j : Array UInt8} : decide (V.byt i = V.byt j) = (i.toList == j.toList) := by
  rw [Bool.eq_iff_iff]
  cases i
  cases j
  simp
section
variable {X : Cx} {a b c : Expr} {ta tb tc : TE} {pos : Pos}
theorem fin_bl {pins : List (Addr × Obj)} {σ : St} {H : Hp} {s : Shared} {Q : VK} {k k' : Bool} (I : Inv X pins σ H s) (q : Q (.bl k) H) (e : k = k') : EP X pins σ Q (.bool k') s := by
  subst e
  exact ⟨.bl k, H, I, rfl, q⟩
theorem op_eq : OpR X (compareOp .Eq) rEq := by
  intro pins s σ H x y v u Q I rx ry h
  obtain ⟨hs, q⟩ := h
  cases x with
  | non =>
    cases rx
    cases y with
    | non => cases ry; exact PySem.EqNone.eq_none_none (fin_bl I q (by simp))
    | bl j => cases ry; exact PySem.EqNone.eq_none_bool (fin_bl I q (by simp))
    | int j => obtain ⟨t', rfl⟩ := ry; exact PySem.EqNone.eq_none_int (fin_bl I q (by simp))
    | str j => obtain ⟨t', rfl⟩ := ry; exact PySem.EqNone.eq_none_str (fin_bl I q (by simp))
    | _ => exact absurd (show false = true from hs) Bool.false_ne_true
  | bl i =>
    cases rx
    cases y with
    | non => cases ry; exact PySem.EqNone.eq_bool_none (fin_bl I q (by simp))
    | bl j => cases ry; exact eq_bool (fin_bl I q dec_bl)
    | str j => obtain ⟨t', rfl⟩ := ry; exact PySem.EqMixed.eq_bool_str (fin_bl I q (by simp))
    | _ => exact absurd (show false = true from hs) Bool.false_ne_true
  | int i =>
    obtain ⟨t, rfl⟩ := rx
    cases y with
    | non => cases ry; exact PySem.EqNone.eq_int_none (fin_bl I q (by simp))
    | int j => obtain ⟨t', rfl⟩ := ry; exact eq_int (fin_bl I q dec_int)
    | str j => obtain ⟨t', rfl⟩ := ry; exact PySem.EqMixed.eq_int_str (fin_bl I q (by simp))
    | _ => exact absurd (show false = true from hs) Bool.false_ne_true
  | str i =>
    obtain ⟨t, rfl⟩ := rx
    cases y with
    | non => cases ry; exact PySem.EqNone.eq_str_none (fin_bl I q (by simp))
    | bl j => cases ry; exact PySem.EqMixed.eq_str_bool (fin_bl I q (by simp))
    | int j => obtain ⟨t', rfl⟩ := ry; exact PySem.EqMixed.eq_str_int (fin_bl I q (by simp))
    | str j => obtain ⟨t', rfl⟩ := ry; exact eq_str (fin_bl I q dec_str)
    | _ => exact absurd (show false = true from hs) Bool.false_ne_true
  | byt i =>
    obtain ⟨t, rfl⟩ := rx
    cases y with
    | byt j => obtain ⟨t', rfl⟩ := ry; exact PySem.W.eq_bytes (fin_bl I q dec_byt)
    | _ => exact absurd (show false = true from hs) Bool.false_ne_true
  | _ => cases y <;> exact absurd (show false = true from hs) Bool.false_ne_true
theorem op_ne : OpR X (compareOp .NotEq) rNe := by
  intro pins s σ H x y v u Q I rx ry h
  obtain ⟨hs, q⟩ := h
  cases x with
  | non =>
    cases rx
    cases y with
    | non => cases ry; exact PySem.EqNone.ne_none_none (fin_bl I q (by simp))
    | bl j => cases ry; exact PySem.EqNone.ne_none_bool (fin_bl I q (by simp))
    | int j => obtain ⟨t', rfl⟩ := ry; exact PySem.EqNone.ne_none_int (fin_bl I q (by simp))
    | str j => obtain ⟨t', rfl⟩ := ry; exact PySem.EqNone.ne_none_str (fin_bl I q (by simp))
    | _ => exact absurd (show false = true from hs) Bool.false_ne_true
  | bl i =>
    cases rx
    cases y with
    | non => cases ry; exact PySem.EqNone.ne_bool_none (fin_bl I q (by simp))
    | bl j => cases ry; exact ne_bool (fin_bl I q (congrArg not dec_bl))
    | str j => obtain ⟨t', rfl⟩ := ry; exact PySem.EqMixed.ne_bool_str (fin_bl I q (by simp))
    | _ => exact absurd (show false = true from hs) Bool.false_ne_true
  | int i =>
    obtain ⟨t, rfl⟩ := rx
    cases y with
    | non => cases ry; exact PySem.EqNone.ne_int_none (fin_bl I q (by simp))
    | int j => obtain ⟨t', rfl⟩ := ry; exact ne_int (fin_bl I q (congrArg not dec_int))
    | str j => obtain ⟨t', rfl⟩ := ry; exact PySem.EqMixed.ne_int_str (fin_bl I q (by simp))
    | _ => exact absurd (show false = true from hs) Bool.false_ne_true
  | str i =>
    obtain ⟨t, rfl⟩ := rx
    cases y with
    | non => cases ry; exact PySem.EqNone.ne_str_none (fin_bl I q (by simp))
    | bl j => cases ry; exact PySem.EqMixed.ne_str_bool (fin_bl I q (by simp))
    | int j => obtain ⟨t', rfl⟩ := ry; exact PySem.EqMixed.ne_str_int (fin_bl I q (by simp))
    | str j => obtain ⟨t', rfl⟩ := ry; exact ne_str (fin_bl I q (congrArg not dec_str))
    | _ => exact absurd (show false = true from hs) Bool.false_ne_true
  | byt i =>
    obtain ⟨t, rfl⟩ := rx
    cases y with
    | byt j => obtain ⟨t', rfl⟩ := ry; exact PySem.W.ne_bytes (fin_bl I q (congrArg not dec_byt))
    | _ => exact absurd (show false = true from hs) Bool.false_ne_true
  | _ => cases y <;> exact absurd (show false = true from hs) Bool.false_ne_true
theorem op_lt : OpR X (compareOp .Lt) (rI0 fun i j => .bl (decide (i < j))) := opB0 fun _ _ _ _ _ _ _ q => lt_int q
theorem op_gt : OpR X (compareOp .Gt) (rI0 fun i j => .bl (decide (j < i))) := opB0 fun _ _ _ _ _ _ _ q => gt_int q
theorem op_ge : OpR X (compareOp .GtE) (rI0 fun i j => .bl (decide (j ≤ i))) := opB0 fun _ _ _ _ _ _ _ q => ge_int q
theorem op_isN : OpR X (compareOp .Is) (fun x y H Q => y = .non ∧ Q (.bl (decide (x = .non))) H) := by
  intro pins s σ H x y v u Q I rx ry h
  obtain ⟨rfl, q⟩ := h
  cases ry
  refine is_none_gen (fin_bl I q ?_)
  cases x <;> first
    | (cases rx; rfl)
    | (obtain ⟨t, rfl⟩ := rx; rfl)
theorem nomark (b : Expr) {op : CmpOp} (h : op ≠ .In := by decide) (h2 : op ≠ .NotIn := by decide) : behindInMarks op b = false := by
  have e1 : (op == CmpOp.In) = false := by cases op <;> first | rfl | exact absurd rfl h
  have e2 : (op == CmpOp.NotIn) = false := by cases op <;> first | rfl | exact absurd rfl h2
  cases b <;> simp [behindInMarks, e1, e2]
theorem pe_cmpR {op : CmpOp} {r : R2} (ho : OpR X (compareOp op) r) (ha : PE X a ta) (hb : PE X b tb) (hm : behindInMarks op b = false) : PE X (.Compare a [op] [b] pos) (tOp r ta tb) := by
  intro pins s σ H Q I h
  exact wpAny_Compare1 (binT ha hb I h fun v u s2 x y H2 I2 rx ry q => ho pins s2 σ H2 x y v u Q I2 rx ry q) hm
def tTest (t : TE) : TT := fun σ H Q => t σ H fun x H' => ∃ k, x = .bl k ∧ Q k H'
theorem pt_cmpR {op : CmpOp} {r : R2} (ho : OpR X (compareOp op) r) (ha : PE X a ta) (hb : PE X b tb) (hm : behindInMarks op b = false) : PT X (.Compare a [op] [b] pos) (tTest (tOp r ta tb)) := by
  intro pins s σ H Q I h
  refine wpAny_isTrue_Compare1 (thn (ha pins s σ H _ I h) fun v s1 ⟨x, H1, I1, r1, q1⟩ => thn (hb pins s1 σ H1 _ I1 q1) fun u s2 ⟨y, H2, I2, r2, q2⟩ =>
    thn (ho pins s2 σ H2 x y v u _ I2 r1 r2 q2) fun c s3 ⟨z, H3, I3, r3, k, e, q3⟩ => ?_) hm
  subst e
  cases r3
  exact wpAny_truthy_bool ⟨H3, I3, q3⟩
theorem line63 : (sizeLine : Nat) < 2 ^ 63 := by rw [sizeLine_eq]; decide
theorem vals1 {x : V} {us : List Value} (r : Vals [x] us) : ∃ u, us = [u] ∧ RelV x u := by
  cases r with
  | cons r1 r2 => cases r2; exact ⟨_, rfl, r1⟩
theorem vals2 {x y : V} {us : List Value} (r : Vals [x, y] us) : ∃ u w', us = [u, w'] ∧ RelV x u ∧ RelV y w' := by
  cases r with
  | cons r1 r2 =>
    cases r2 with
    | cons r3 r4 => cases r4; exact ⟨_, _, rfl, r1, r3⟩
theorem call_max2 (hc : X.calm = true) : CallR X (.builtin "max") (fun xs H Q => ∃ i j, xs = [.int i, .int j] ∧ Q (.int (if j > i then j else i)) H) := by
  intro pins s σ H xs us Q I r h
  obtain ⟨i, j, rfl, q⟩ := h
  obtain ⟨u, w', rfl, ⟨t, rfl⟩, ⟨t', rfl⟩⟩ := vals2 r
  refine max_two_ints (I.ok.hd hc) fun h' tk k => ⟨_, H, I.kept k, ?_, q⟩
  by_cases hj : j > i
  · rw [if_pos hj, if_pos hj]; exact ⟨_, rfl⟩
  · rw [if_neg hj, if_neg hj]; exact ⟨_, rfl⟩
theorem call_min2 (hc : X.calm = true) : CallR X (.builtin "min") (fun xs H Q => ∃ i j, xs = [.int i, .int j] ∧ Q (.int (if j < i then j else i)) H) := by
  intro pins s σ H xs us Q I r h
  obtain ⟨i, j, rfl, q⟩ := h
  obtain ⟨u, w', rfl, ⟨t, rfl⟩, ⟨t', rfl⟩⟩ := vals2 r
  refine min_two_ints (I.ok.hd hc) fun h' tk k => ⟨_, H, I.kept k, ?_, q⟩
  by_cases hj : j < i
  · rw [if_pos hj, if_pos hj]; exact ⟨_, rfl⟩
  · rw [if_neg hj, if_neg hj]; exact ⟨_, rfl⟩
end
end L2
namespace L2
open PySem PySem.Spec PyProof.Rows
structure ObjM (h : Heap) (x dx C : Addr) (mA : Str → Option Value) : Prop where
  obj : h.get? x = some (PySem.W.instObj C dx)
  ns : h.Ns1 dx mA
  ne : dx ≠ x
theorem lookIn_ns {h : Heap} {dx : Addr} {mA : Str → Option Value} (n : h.Ns1 dx mA) : ∃ od, h.get? dx = some od ∧ ∀ name, PySem.W.lookIn name od = some (mA name) := by
  obtain ⟨o, es, ep, ho, hd, hk, _, hm⟩ := n
  refine ⟨o, ho, fun name => ?_⟩
  have e := hm name
  unfold nsFind findBy at e
  rw [← Array.find?_toList] at e
  unfold PySem.W.lookIn
  rw [hd]
  dsimp only
  split
  · rename_i y q
    rw [q] at e
    exact congrArg some e
  · rename_i q
    rw [q] at e
    have a : es.toList.any (·.refKey) = false := by
      rw [List.any_eq_false]
      intro y hy
      obtain ⟨z, t, hkey⟩ := hk y (Array.mem_toList_iff.mp hy)
      simp [DictEntry.refKey, hkey]
    have a' : ¬ es.toList.any (·.refKey) = true := by rw [a]; exact Bool.false_ne_true
    rw [if_neg a']
    exact congrArg some e
theorem ObjM.look {h : Heap} {x dx C : Addr} {mA : Str → Option Value} (I : ObjM h x dx C mA) : ∃ od, PySem.W.InstAt h x (PySem.W.instObj C dx) C (some od) ∧ ∀ name, PySem.W.lookIn name od = some (mA name) :=
  let ⟨od, ho, hl⟩ := lookIn_ns I.ns
  ⟨od, ⟨I.obj, rfl, rfl, ho⟩, hl⟩
section
variable {prog : Program} {w : World} {A : Around} {E : Value → Shared → Prop} {s : Shared} {K : PySem.W.Frag} {x dx C f : Addr} {mA : Str → Option Value} {name : Str} {v : Value}
end
section
variable {P : Program} {w : World} {H H' : Hp} {h h' : Heap} {a C dx : Addr} {fs fs' : List (Str × V)}
theorem ins_get (hok : HOk P w H h) (e : H a = some (.ins C dx fs)) : ∃ mA, ObjM h a dx C mA ∧ (∀ f, RelO (fs.lookup f) (mA f)) ∧ PySem.Within mA (fs.map (·.1)) ∧ fs.length ≤ 1000 ∧ H dx = some (.own a) := by
  obtain ⟨d, z, ne, ob, mA, n, r, q⟩ := (show ObjOk P w H h a (.ins C dx fs) from hok a _ e)
  exact ⟨mA, ⟨ob, n, ne⟩, r, q, z, d⟩
end
structure Cls (K : PySem.W.Frag) (C : Addr) : Prop where
  pg : PySem.W.plainGet K C Str.empty = true
  hd : PySem.W.hasDictIn K C = true
  po : PySem.W.plainOver K C = true
  sa : PySem.W.findIn K (.ref C) "__setattr__" = some (some (.builtin "object.__setattr__"))
theorem Cls.get {K : PySem.W.Frag} {C : Addr} (c : Cls K C) (f : Str) : PySem.W.plainGet K C f = true := c.pg
section
variable {X : Cx} {pins : List (Addr × Obj)} {σ : St} {H : Hp} {s : Shared} {a C dx : Addr} {fs : List (Str × V)} {f : Str} {v : V} {A : Around} {E : Value → Shared → Prop}
end
section
variable {X : Cx} {o e value : Expr} {f : Str} {pos pos' tpos : Pos} {ta tv : TE}
end
section
variable {X : Cx} {pins : List (Addr × Obj)} {σ : St} {H : Hp} {s : Shared} {A : Around} {E : Value → Shared → Prop} {Q : Value → Shared → Prop} {c : Value} {b : Bool}
inductive TyOf (K : PySem.W.Frag) (H : Hp) : V → Value → Prop where
  | non : TyOf K H .non (.type "NoneType")
  | bl (x : Bool) : TyOf K H (.bl x) (.type "bool")
  | int (i : Int) : TyOf K H (.int i) (.type "int")
  | str (x : Str) : TyOf K H (.str x) (.type "str")
  | flt (x : UInt64) : TyOf K H (.flt x) (.type "float")
  | lst {a : Addr} {xs : List V} (e : H a = some (.lst xs)) : TyOf K H (.ref a) (.type "list")
  | frz {a : Addr} {o : Obj} {xs : List V} (e : H a = some (.frz o (.lst xs))) : TyOf K H (.ref a) (.type "list")
  | tup {a : Addr} {xs : List V} (e : H a = some (.tup xs)) : TyOf K H (.ref a) (.type "tuple")
  | dK {a : Addr} {kvs : List (Key × V)} (e : H a = some (.dK kvs)) : TyOf K H (.ref a) (.type "dict")
  | dT {a : Addr} {kvs : List (List Key × V)} (e : H a = some (.dT kvs)) : TyOf K H (.ref a) (.type "dict")
  | ins {a C dx : Addr} {fs : List (Str × V)} (e : H a = some (.ins C dx fs)) (cl : Cls K C) (ha : PySem.W.findIn K (.ref C) "__class__" = some (some (.builtin "object.__class__")))
      (hn : PySem.W.specialIn K (.builtin "object.__class__") "__get__" = some (some (.builtin "getset_descriptor.__get__"))) (htk : PySem.W.takesIn K (.builtin "object.__class__") = some true)
      (hm : PySem.W.mroIn K C (.type "object") = some true) : TyOf K H (.ref a) (.ref C)
theorem isinst_ok {x : V} {u t : Value} (I : Inv X pins σ H s) (rx : RelV x u) (ty : TyOf X.K H x t) (e : PySem.W.kitOne X.K t c = some b) (h : ∀ tk, Q (.bool b) { s with toks := tk }) :
    wpAny (model X.prog X.w) A (call (.builtin "isinstance") [u, c]) Q E s := by
  cases ty with
  | non => cases (show u = Value.none from rx); exact PySem.W.kia_one PySem.W.kitx_none I.kIn True.intro e (fun z => nomatch z) h
  | bl y => cases (show u = Value.bool y from rx); exact PySem.W.kia_one PySem.W.kitx_bool I.kIn True.intro e (fun z => nomatch z) h
  | int i => obtain ⟨t, q⟩ := (show ∃ t, u = Value.int i t from rx); cases q; exact PySem.W.kia_one PySem.W.kitx_int I.kIn True.intro e (fun z => nomatch z) h
  | str y => obtain ⟨t, q⟩ := (show ∃ t, u = Value.str y t from rx); cases q; exact PySem.W.kia_one PySem.W.kitx_str I.kIn True.intro e (fun z => nomatch z) h
  | flt y => obtain ⟨t, q⟩ := (show ∃ t, u = Value.float y t from rx); cases q; exact PySem.W.kia_one PySem.W.kitx_float I.kIn True.intro e (fun z => nomatch z) h
  | @lst a xs ea =>
    cases (show u = Value.ref a from rx)
    obtain ⟨_, _, n, _, h1⟩ := (show ObjOk X.prog X.w H s.heap a (.lst xs) from I.hok a _ ea)
    exact PySem.W.kia_one PySem.W.kitx_list I.kIn ⟨_, h1, rfl⟩ e (fun z => nomatch z) h
  | @frz a ob xs ea =>
    cases (show u = Value.ref a from rx)
    obtain ⟨_, _, _, n, _, h1⟩ := (show ObjOk X.prog X.w H s.heap a (.frz ob (.lst xs)) from I.hok a _ ea)
    exact PySem.W.kia_one PySem.W.kitx_list I.kIn ⟨_, h1, rfl⟩ e (fun z => nomatch z) h
  | @tup a xs ea =>
    cases (show u = Value.ref a from rx)
    obtain ⟨_, _, _, p⟩ := (show ObjOk X.prog X.w H s.heap a (.tup xs) from I.hok a _ ea)
    obtain ⟨o, h1, h2, _⟩ := p
    exact PySem.W.kia_one PySem.W.kitx_tuple I.kIn ⟨o, h1, h2⟩ e (fun z => nomatch z) h
  | @dK a kvs ea =>
    cases (show u = Value.ref a from rx)
    obtain ⟨_, _, vs, _, p⟩ := (show ObjOk X.prog X.w H s.heap a (.dK kvs) from I.hok a _ ea)
    obtain ⟨o, es, ep, h1, h2, _⟩ := p
    exact PySem.W.kia_one PySem.W.kitx_dict I.kIn ⟨o, h1, h2.1⟩ e (fun z => nomatch z) h
  | @dT a kvs ea =>
    cases (show u = Value.ref a from rx)
    obtain ⟨_, _, xs, _, o, es, ep, h1, h2, _⟩ := (show ObjOk X.prog X.w H s.heap a (.dT kvs) from I.hok a _ ea)
    exact PySem.W.kia_one PySem.W.kitx_dict I.kIn ⟨o, h1, h2.1⟩ e (fun z => nomatch z) h
  | @ins a C dx fs ea cl ha hn htk hm =>
    cases (show u = Value.ref a from rx)
    obtain ⟨mA, O, _⟩ := ins_get I.hok ea
    obtain ⟨od, J, _⟩ := O.look
    exact PySem.W.kia_one (PySem.W.kitx_own (cl.get _) cl.hd ha hn htk hm) I.kIn J e (fun z => nomatch z) h
end
end L2
namespace L2
open PySem PySem.Spec PyProof.Rows
structure Room (k : Nat) (A : Around) : Prop where
  hd : A.handled = none
  dp : A.depth + 3 * k + 5 < recursionLimit
  un : A.units + 16 * k + 200 < cLine
theorem Room.mono {j k : Nat} {A : Around} (r : Room k A) (h : j ≤ k) : Room j A := ⟨r.hd, by have := r.dp; omega, by have := r.un; omega⟩
theorem Room.deeper {k : Nat} {A : Around} (r : Room (k + 1) A) (env : Env) : Room k (A.deeper env) :=
  ⟨r.hd, by have := r.dp; show A.depth + 1 + 3 * k + 5 < _; omega, by have := r.un; show A.units + 3 + 16 * k + 200 < _; omega⟩
theorem Room.depth {k : Nat} {A : Around} (r : Room k A) : A.depth < recursionLimit := by have := r.dp; omega
theorem Room.units {k : Nat} {A : Around} (r : Room k A) : A.units + 64 < cLine := by have := r.un; omega
def tNil : TA := fun _ H Q => Q [] H
def tCons (ta : TE) (tr : TA) : TA := fun σ H Q => ta σ H fun x H1 => tr σ H1 fun xs H2 => Q (x :: xs) H2
section
variable {X : Cx} {e : Expr} {es : List Expr} {te : TE} {t : TA} {pos : Pos}
theorem pa_nil : PA X [] tNil := fun _ _ _ _ H Q I h => Calls.spliced_nil ⟨[], H, I, .nil, h⟩
theorem pa_cons (ha : PE X e te) (hr : PA X es t) (hs : starEach (e :: es) X.env = (false, eval e X.env) :: starEach es X.env := by rfl) : PA X (e :: es) (tCons te t) := by
  intro pos pins s σ H Q I h
  rw [hs]
  show wpAny _ _ (spliced ((false, eval e X.env) :: backTo pos (starEach es X.env))) _ _ s
  refine Calls.spliced_cons (thn (ha pins s σ H _ I h) fun u s1 ⟨x, H1, I1, r1, q1⟩ => ?_)
  exact thn (hr pos pins s1 σ H1 _ I1 q1) fun us s2 ⟨xs, H2, I2, r2, q2⟩ => ⟨x :: xs, H2, I2, .cons r1 r2, q2⟩
def tTup (t : TA) : TE := fun σ H Q => t σ H fun xs H1 => xs.length ≤ sizeLine ∧ ∀ p, H1 p = none → Q (.ref p) (upd H1 p (.tup xs))
def tLst (t : TA) : TE := fun σ H Q => t σ H fun xs H1 => xs.length ≤ sizeLine ∧ ∀ p, H1 p = none → Q (.ref p) (upd H1 p (.lst xs))
theorem pe_tup {x1} (h : PA X es t) : PE X (.Tuple es x1 pos) (tTup t) := by
  intro pins s σ H Q I hq
  refine wpAny_Tuple_spliced (thn (h pos pins s σ H _ I hq) fun us s1 ⟨xs, H1, I1, r, z, q⟩ => ⟨by rw [← r.length]; exact z, ?_⟩)
  have hf : H1 s1.heap.objs.size = none := I1.hok.fresh (Nat.le_refl _)
  refine ⟨.ref s1.heap.objs.size, upd H1 s1.heap.objs.size (.tup xs), I1.laid (t' := s1.toks) (fun b u e => Heap.get?_push_of_some _ e) (Nat.le_refl _) ?_, rfl, q _ hf⟩
  exact ⟨z, us, r, ⟨_, Heap.get?_push_size _ rfl, rfl, _, rfl⟩⟩
theorem pe_lst (h : PA X es t) : PE X (.List es pos) (tLst t) := by
  intro pins s σ H Q I hq
  refine wpAny_List_spliced (thn (h pos pins s σ H _ I hq) fun us s1 ⟨xs, H1, I1, r, z, q⟩ => ⟨by rw [← r.length]; exact z, ?_⟩)
  have hf : H1 s1.heap.objs.size = none := I1.hok.fresh (Nat.le_refl _)
  refine ⟨.ref s1.heap.objs.size, upd H1 s1.heap.objs.size (.lst xs), I1.laid (t' := s1.toks) (fun b u e => Heap.get?_push_of_some _ e) (Nat.le_refl _) ?_, rfl, q _ hf⟩
  exact ⟨z, us, 0, r, Heap.get?_push_size _ rfl⟩
end
abbrev Sp := List V → Hp → VK → XK → Prop
abbrev CXT := List Env → Hp → Shared → XK → Value → Shared → Prop
structure Env0 (P : Program) (w : World) (K : PySem.W.Frag) (mg : Str → Option Value) (base : Heap) (A : Around) (outer : List Env) (s : Shared) (H : Hp) : Prop where
  frames : A.frames = some outer
  mod : Mod K mg base
  bs : ∀ b o, base.get? b = some o → s.heap.get? b = some o ∧ H b = none
  bsz : base.objs.size ≤ s.heap.objs.size
  funs : s.heap.FunFrames base outer
  frf : ∀ b ∈ frs outer, H b = none
  hok : HOk P w H s.heap
  bare : AllBare s.gens
def CE (outer : List Env) (P : Program) (w : World) (H : Hp) (s : Shared) (Q : VK) (u : Value) (s' : Shared) : Prop :=
  ∃ v H', s'.os = s.os ∧ AllBare s'.gens ∧ Un (frs outer) [] H H' s.heap s'.heap ∧ HOk P w H' s'.heap ∧ RelV v u ∧ Q v H'
def CR (CX : CXT) (outer : List Env) (P : Program) (w : World) (H : Hp) (s : Shared) (Q : VK) (E : XK) (r : Result) (s' : Shared) : Prop :=
  match r with
  | .ok (.ret u) => CE outer P w H s Q u s'
  | .ok _ => False
  | .error e => CX outer H s E e s'
structure FnOk (P : Program) (w : World) (K : PySem.W.Frag) (mg : Str → Option Value) (base : Heap) (CX : CXT) (k : Nat) (f : Addr) (fd : FuncData) (ps : List Str) (sp : Sp) : Prop where
  len : ∀ vs H Q E, sp vs H Q E → vs.length = ps.length
  run : ∀ (A : Around) (outer : List Env) (s : Shared) (H : Hp) (args : Args) (us : List Value) (vs : List V) (Q : VK) (E : XK), Room k A → Env0 P w K mg base A outer s H → BindsTo s fd args (ps.zip us) → Vals vs us → sp vs H Q E →
    codeAny (model P w) A (.call (.ref f) args) (CR CX outer P w H s Q E) s
section
variable {X : Cx} {pins : List (Addr × Obj)} {σ : St} {H : Hp} {s s' : Shared}
theorem Inv.env0 (I : Inv X pins σ H s) : Env0 X.prog X.w X.K X.mg X.base X.A X.stack s H :=
  ⟨I.ok.frames, I.ok.mod, I.bs, Nat.le_trans I.ok.bsz I.sz, I.stack, I.stkFree, I.hok, I.bare⟩
theorem Inv.after {Q : VK} {u : Value} (I : Inv X pins σ H s) (h : CE X.stack X.prog X.w H s Q u s') : EP X pins σ Q u s' := by
  obtain ⟨v, H', os, bare, un, hok, r, q⟩ := h
  obtain ⟨hh, g, d, t, os'⟩ := s'
  obtain rfl : os' = s.os := os
  exact ⟨v, H', I.call (h' := hh) (g' := g) (d' := d) (t' := t) (ch := []) un hok bare (fun b z => absurd z (by simp)), r, q⟩
end
def tCall (sp : Sp) (dvs : List V) (E : XK) (t : TA) : TE := fun σ H Q => t σ H fun vs H1 => sp (vs ++ dvs) H1 Q E
def Binds (K : PySem.W.Frag) (fd : FuncData) (ps : List Str) (ds : List Value) : Prop :=
  ∀ (s : Shared) (us : List Value), K.In s.heap → (us ++ ds).length = ps.length → BindsTo s fd ⟨us, []⟩ (ps.zip (us ++ ds))
theorem Binds.all {K : PySem.W.Frag} {fd : FuncData} {ps : List Str} (h : ∀ us : List Value, us.length = ps.length → bindArgs fd ⟨us, []⟩ = pure (ps.zip us)) : Binds K fd ps [] := fun s us _ hl => by
  rw [List.append_nil] at hl ⊢
  exact .of_eq (h us hl)
def Passes (CX : CXT) (X : Cx) (E : XK) : Prop := ∀ (pins : List (Addr × Obj)) (σ : St) (H : Hp) (s : Shared) (e : Value) (s' : Shared), Inv X pins σ H s → CX X.stack H s E e s' → X.xe e s'
section
variable {X : Cx} {CX : CXT} {k : Nat} {f C : Addr} {fd : FuncData} {ps : List Str} {sp : Sp} {dvs : List V} {ds : List Value} {E : XK} {x m : Str} {p pos apos : Pos} {e o : Expr} {es : List Expr} {ta : TE} {t : TA}
theorem run_fn {pins : List (Addr × Obj)} {σ : St} {H : Hp} {s : Shared} {Q : VK} {us : List Value} {vs : List V} (F : FnOk X.prog X.w X.K X.mg X.base CX k f fd ps sp) (hr : Room k X.A) (hb : Binds X.K fd ps ds) (hd : Vals dvs ds) (hx : Passes CX X E)
    (I : Inv X pins σ H s) (r : Vals vs us) (h : sp (vs ++ dvs) H Q E) : wpAny (model X.prog X.w) X.A (call (.ref f) us) (EP X pins σ Q) X.xe s := by
  have r2 : Vals (vs ++ dvs) (us ++ ds) := r.append hd
  have hl : (us ++ ds).length = ps.length := by rw [← r2.length]; exact F.len _ _ _ _ h
  refine wpAny_call (codeAny_mono (F.run X.A X.stack s H ⟨us, []⟩ (us ++ ds) (vs ++ dvs) Q E hr I.env0 (hb s us I.kIn hl) r2 h) fun r s' hq => ?_)
  cases r with
  | error e => exact hx pins σ H s e s' I hq
  | ok fl =>
    cases fl with
    | ret u => exact I.after hq
    | next => exact False.elim hq
    | brk => exact False.elim hq
    | cont => exact False.elim hq
theorem pe_call (F : FnOk X.prog X.w X.K X.mg X.base CX k f fd ps sp) (hr : Room k X.A) (hg : Gl X x) (hm : X.mg x = some (.ref f)) (hk : PySem.W.keepIn X.K (.ref f) = true) (hb : Binds X.K fd ps ds) (hd : Vals dvs ds) (hx : Passes CX X E)
    (ha : PA X (e :: es) t) (hdb : (x == ("__debug__" : Str)) = false := by decide) (he : starEach (e :: es) X.env = (false, eval e X.env) :: starEach es X.env := by rfl) (hpl : (backTo pos (starEach es X.env)).any (·.1) = false := by rfl) :
    PE X (.Call (.Name x p) (e :: es) [] pos) (tCall sp dvs E t) := by
  intro pins s σ H Q I h
  refine wpAny_Call_Name_kw (ld_glob I hg hm ?_ hdb)
  refine PySem.W.callWith_K (h₀ := X.base) I.ok.mod.kin hk (thn (ha pos pins s σ H _ I h) fun us s1 ⟨vs, H1, I1, r, q⟩ => ⟨I1.kIn, ?_⟩) he hpl
  exact run_fn F hr hb hd hx I1 r q
end
section
variable {X : Cx} {CX : CXT} {k : Nat} {f C : Addr} {fd : FuncData} {ps ks : List Str} {sp : Sp} {E : XK} {x m : Str} {p pos apos kpos : Pos} {e o : Expr} {es : List Expr} {kws : List Keyword} {te ta : TE} {t tk : TA} {nm : Option Str}
variable {g : List Value → List Value → List Value} {gV : List V → List V → List V}
end
structure FnScope (N P : List Str) (sc : Scope) : Prop where
  kind : sc.kind = .function
  co : sc.isCoroutine = false
  gen : sc.isGenerator = false
  nd : N.Nodup
  pre : N.take P.length = P
  par : ∀ x ∈ P, sc.names.lookup x = some .local ∨ sc.names.lookup x = some .cell
  nofree : ∀ y ∈ sc.names, y.2 ≠ .free
theorem bindL_out {kindOf : Str → Option NameKind} {x : Str} : ∀ {binds : List (Str × Value)} {m : Str → Option Value}, (∀ v, (x, v) ∉ binds) → bindL kindOf binds m x = m x
  | [], _, _ => rfl
  | (n, v) :: r, m, h => by
    unfold bindL
    rw [bindL_out fun w hw => h w (List.mem_cons_of_mem _ hw)]
    split
    · have : x ≠ n := by rintro rfl; exact h v List.mem_cons_self
      simp [this]
    · rfl
theorem bindC_out {kindOf : Str → Option NameKind} {x : Str} : ∀ {binds : List (Str × Value)} {m : Str → Option Value}, (∀ v, (x, v) ∉ binds) → bindC kindOf binds m x = m x
  | [], _, _ => rfl
  | (n, v) :: r, m, h => by
    unfold bindC
    rw [bindC_out fun w hw => h w (List.mem_cons_of_mem _ hw)]
    split
    · rfl
    · have : x ≠ n := by rintro rfl; exact h v List.mem_cons_self
      simp [this]
theorem bindL_get {kindOf : Str → Option NameKind} {x : Str} {v : Value} : ∀ {P : List Str} {vs : List Value} {i : Nat} {m : Str → Option Value}, P.Nodup → P[i]? = some x → vs[i]? = some v → kindOf x = some .local →
    bindL kindOf (P.zip vs) m x = some v
  | [], _, _, _, _, h, _, _ => by simp at h
  | _ :: _, [], _, _, _, _, h, _ => by simp at h
  | p :: P, w :: vs, 0, m, nd, h1, h2, hk => by
    simp at h1 h2; subst h1; subst h2
    show bindL kindOf ((p, w) :: P.zip vs) m p = _
    unfold bindL
    rw [bindL_out fun v hv => (List.nodup_cons.mp nd).1 (List.of_mem_zip hv).1, if_pos hk]
    simp
  | p :: P, w :: vs, i + 1, m, nd, h1, h2, hk => by
    show bindL kindOf ((p, w) :: P.zip vs) m x = _
    unfold bindL
    exact bindL_get (i := i) (List.nodup_cons.mp nd).2 (by simpa using h1) (by simpa using h2) hk
theorem bindC_get {kindOf : Str → Option NameKind} {x : Str} {v : Value} : ∀ {P : List Str} {vs : List Value} {i : Nat} {m : Str → Option Value}, P.Nodup → P[i]? = some x → vs[i]? = some v → kindOf x ≠ some .local →
    bindC kindOf (P.zip vs) m x = some v
  | [], _, _, _, _, h, _, _ => by simp at h
  | _ :: _, [], _, _, _, _, h, _ => by simp at h
  | p :: P, w :: vs, 0, m, nd, h1, h2, hk => by
    simp at h1 h2; subst h1; subst h2
    show bindC kindOf ((p, w) :: P.zip vs) m p = _
    unfold bindC
    rw [bindC_out fun v hv => (List.nodup_cons.mp nd).1 (List.of_mem_zip hv).1, if_neg hk]
    simp
  | p :: P, w :: vs, i + 1, m, nd, h1, h2, hk => by
    show bindC kindOf ((p, w) :: P.zip vs) m x = _
    unfold bindC
    exact bindC_get (i := i) (List.nodup_cons.mp nd).2 (by simpa using h1) (by simpa using h2) hk
def start (N : List Str) (vs : List V) : St := vs.map some ++ List.replicate (N.length - vs.length) none
def cxOf (CX : CXT) (P : Program) (w : World) (K : PySem.W.Frag) (mg : Str → Option Value) (base : Heap) (N : List Str) (qual : Str) (scope : Scope) (f : Addr) (cd : Value) (A : Around) (outer : List Env) (s : Shared) (H : Hp) (E : XK) : Cx where
  prog := P
  w := w
  K := K
  mg := mg
  base := base
  A := A.deeper (envOfC qual scope s.heap.objs.size f cd)
  N := N
  s₀ := s
  H₀ := H
  env := envOfC qual scope s.heap.objs.size f cd
  outer := outer
  stack := envOfC qual scope s.heap.objs.size f cd :: outer
  ex := []
  calm := true
  fn := fun _ => true
  pn := []
  xe := fun e s' => wpAny (model P w) (A.deeper (envOfC qual scope s.heap.objs.size f cd)) (leaving (envOfC qual scope s.heap.objs.size f cd) e) (fun _ s'' => CX outer H s E e s'') (fun e' s'' => CX outer H s E e' s'') s'
theorem cell_has {sc : Scope} {n : Nat} {x : Str} (h : sc.names.lookup x = some .cell) : ∃ c, (cellsFrom n sc.names []).lookup x = some c := by
  have q := PySem.W.cellsFrom_some sc.names n [] (.inl h)
  exact Option.isSome_iff_exists.mp q
theorem inv_start {CX : CXT} {P : Program} {w : World} {K : PySem.W.Frag} {mg : Str → Option Value} {base : Heap} {N ps : List Str} {qual : Str} {scope : Scope} {f : Addr} {cd : Value} {A : Around} {outer : List Env} {s s1 : Shared} {H : Hp} {E : XK} {us : List Value} {vs : List V}
    (S : FnScope N ps scope) (hd : A.handled = none) (e0 : Env0 P w K mg base A outer s H) (hl : vs.length = ps.length) (r : Vals vs us)
    (x : InCallC s s.heap.objs.size (bindL (envOfC qual scope s.heap.objs.size f cd).kindOf (ps.zip us) fun _ => none) (cellsFrom (s.heap.objs.size + 1) scope.names []) (bindC (envOfC qual scope s.heap.objs.size f cd).kindOf (ps.zip us) fun _ => none) s1) :
    Inv (cxOf CX P w K mg base N qual scope f cd A outer s H E) [] (start N vs) H s1 := by
  have hpl : ps.length ≤ N.length := by have := congrArg List.length S.pre; rw [List.length_take] at this; omega
  obtain ⟨h1, tk, rfl, hk⟩ := x.done
  have noA : ∀ b : Addr, b ∉ (cxOf CX P w K mg base N qual scope f cd A outer s H E).ex := fun b z => absurd (show b ∈ ([] : List Addr) from z) (by simp)
  refine ⟨⟨e0.mod, S.kind, rfl, rfl, Nat.le_refl _, fun y z c h1 h2 => ?_, fun y hy => ?_, fun y c _ h => ?_, fun _ => hd, Around.frames_deeper e0.frames, .inr ⟨rfl, rfl⟩, fun b z => absurd z (noA b), e0.bs, e0.bsz, fun b _ _ => noA b, fun b z => absurd z (noA b), e0.funs, e0.frf⟩,
    rfl, e0.bare, Un.kept hk, ⟨_, x.toInCall.ns, fun i y v h1 h2 h3 => ?_⟩, fun y c h => ⟨_, x.cell y c h⟩, e0.hok.fresh (Nat.le_refl _), fun y c h => ?_, fun p hp => absurd (show p ∈ ([] : List (Addr × Obj)) from hp) (by simp), e0.hok.kept hk, ?_⟩
  · exact name_of_addr x.apart (PySem.mem_of_lookup h1) (PySem.mem_of_lookup h2)
  · have hy : scope.names.lookup y = some .cell ∨ scope.names.lookup y = some .free := hy
    rcases hy with hy | hy
    · exact cell_has hy
    · exact absurd rfl (S.nofree _ (PySem.mem_of_lookup hy))
  · exact Nat.le_of_lt (x.above y c (PySem.mem_of_lookup h))
  · have hi : i < vs.length := by
      unfold start at h2
      by_cases hi : i < vs.length
      · exact hi
      · rw [List.getElem?_append_right (by simpa using hi)] at h2
        rw [List.getElem?_replicate] at h2
        split at h2 <;> cases h2
    have ha : vs[i]? = some v := by
      unfold start at h2
      rw [List.getElem?_append_left (by simpa using hi), List.getElem?_map] at h2
      cases e : vs[i]? with
      | none => rw [e] at h2; cases h2
      | some a => rw [e] at h2; cases h2; rfl
    obtain ⟨u, hu, rv⟩ := r.get ha
    have hp : ps[i]? = some y := by
      rw [← S.pre, List.getElem?_take_of_lt (by omega)]; exact h1
    have ndP : ps.Nodup := by rw [← S.pre]; exact S.nd.sublist (List.take_sublist _ _)
    refine ⟨u, rv, ?_⟩
    rcases S.par y (List.mem_of_getElem? hp) with k | k
    · exact .inl ⟨k, bindL_get ndP hp hu k⟩
    · obtain ⟨c, e⟩ := cell_has (n := s.heap.objs.size + 1) k
      refine .inr ⟨.inl k, c, e, ?_⟩
      have q := x.cell y c e
      rw [bindC_get ndP hp hu (by show scope.names.lookup y ≠ _; rw [k]; decide)] at q
      exact q
  · exact e0.hok.fresh (Nat.le_of_lt (x.above y c (PySem.mem_of_lookup h)))
  · unfold start
    show _ = N.length
    rw [List.length_append, List.length_map, List.length_replicate]
    omega
theorem fn_of {CX : CXT} {P : Program} {w : World} {K : PySem.W.Frag} {mg : Str → Option Value} {base : Heap} {k : Nat} {f : Addr} {name qual : Str} {params : Arguments} {body : List Stmt} {scope : Scope} {dV kV doc pm cdv ct oc : Value} {an od : Option Addr}
    {osl : Array (Option Value)} {N ps : List Str} {sp : Sp} (lk : K.lookup f = some ⟨oc, od, .func (PySem.W.fnOf name qual params body scope dV kV doc pm an cdv ct), osl⟩) (hcd : PySem.W.codeIn K cdv qual = true) (S : FnScope N ps scope)
    (len : ∀ vs H Q E, sp vs H Q E → vs.length = ps.length)
    (hbody : ∀ (A : Around) (outer : List Env) (s : Shared) (H : Hp) (vs : List V) (Q : VK) (E : XK), Room k (A.deeper (envOfC qual scope s.heap.objs.size f cdv)) → sp vs H Q E →
      ∃ t, PSs (cxOf CX P w K mg base N qual scope f cdv A outer s H E) body t ∧ t { nx := fun _ H' => Q .non H', rt := Q } (start N vs) H) :
    FnOk P w K mg base CX (k + 1) f (PySem.W.fnOf name qual params body scope dV kV doc pm an cdv ct) ps sp := by
  refine ⟨len, fun A outer s H args us vs Q E hr e0 hb r hsp => ?_⟩
  have hl := len _ _ _ _ hsp
  have KX : K.In s.heap := e0.mod.kin.keeps fun b o e => (e0.bs b o e).1
  have lim : s.heap.NoLimit := e0.mod.nolimit.keeps fun b o e => (e0.bs b o e).1
  have hkind : ∀ y ∈ ps.zip us, scope.names.lookup y.1 = some .local ∨ (scope.names.lookup y.1 = some .cell ∧ ((cellsFrom (s.heap.objs.size + 1) scope.names []).lookup y.1).isSome = true) := fun ⟨n, v⟩ hy => by
    rcases S.par n (List.of_mem_zip hy).1 with q | q
    · exact .inl q
    · exact .inr ⟨q, PySem.W.cellsFrom_some _ _ _ (.inl q)⟩
  refine codeAny_call_function hr.depth (KX _ _ lk) rfl S.co S.gen rfl (PySem.W.codeRec_of KX hcd) (hb _ _ _ _ ?_)
  refine wpAny_newFunctionEnv_cells S.kind hkind fun env he s1 x => ?_
  subst he
  refine ⟨lim.keeps x.toInCall.keep, codeAny_func ?_⟩
  obtain ⟨t, ht, hq⟩ := hbody A outer s H vs Q E (hr.deeper _) hsp
  have I : Inv (cxOf CX P w K mg base N qual scope f cdv A outer s H E) [] (start N vs) H s1 := inv_start S hr.hd e0 hl r x
  refine wpAny_mono (ht [] s1 (start N vs) H _ I hq) (fun fl s' hs => ?_) fun e s' hs => hs
  have fin : ∀ {σ' : St} {H' : Hp} {v : V} {u : Value}, Inv (cxOf CX P w K mg base N qual scope f cdv A outer s H E) [] σ' H' s' → RelV v u → Q v H' → CE outer P w H s Q u s' :=
    fun {σ' H' v u} J rv q => ⟨v, H', J.os, J.bare, J.base, J.hok, rv, q⟩
  cases fl with
  | ret u =>
    obtain ⟨v, σ', H', J, rv, q⟩ := hs
    exact fin J rv q
  | next =>
    obtain ⟨σ', H', J, q⟩ := hs
    exact fin (v := V.non) (u := Value.none) J rfl q
  | brk =>
    obtain ⟨_, _, _, q⟩ := hs
    exact False.elim q
  | cont =>
    obtain ⟨_, _, _, q⟩ := hs
    exact False.elim q
end L2
namespace L2
open PySem PySem.Spec PyProof.Rows
section
variable {X : Cx} {x : Str} {p pos : Pos} {e : Expr} {es : List Expr} {t : TA} {id T : String} {r : List V → Hp → VK → Prop}
def tCB (r : List V → Hp → VK → Prop) (t : TA) : TE := fun σ H Q => t σ H fun vs H1 => r vs H1 Q
theorem pe_callB (hc : CallR X (.builtin id) r) (hg : Gl X x) (hm : X.mg x = none) (hv : bootBuiltins x = some (.builtin id)) (ha : PA X (e :: es) t) (hn : x ≠ "__name__" := by decide) (hdb : (x == ("__debug__" : Str)) = false := by decide)
    (he : starEach (e :: es) X.env = (false, eval e X.env) :: starEach es X.env := by rfl) (hpl : (backTo pos (starEach es X.env)).any (·.1) = false := by rfl) : PE X (.Call (.Name x p) (e :: es) [] pos) (tCB r t) := by
  intro pins s σ H Q I h
  refine wpAny_Call_Name_kw (ld_blt I hg hm hv ?_ hn hdb)
  exact PyProof.Rows.callWith_builtin1 (thn (ha pos pins s σ H _ I h) fun us s1 ⟨vs, H1, I1, r1, q1⟩ => hc pins s1 σ H1 vs us Q I1 r1 q1) he hpl
end
end L2
namespace HT
open PySem PyProof.Rows
section
open PySem.SeqAt
open PySem.AutoSeq1 (wpAny_loadPart')
open PySem.MeetsSeq PySem.MeetsSeq2 PySem.MeetsSeq3
end
section
variable {prog : Program} {w : World} {A : Around} {E : Value → Shared → Prop} {s : Shared}
end
end HT
namespace L2
open PySem PySem.Spec PyProof.Rows
abbrev TO := St → Hp → (Option Int → Hp → Prop) → Prop
def PO (X : Cx) (e : Option Expr) (t : TO) : Prop :=
  ∀ (pins : List (Addr × Obj)) (s : Shared) (σ : St) (H : Hp) (Q : Option Int → Hp → Prop), Inv X pins σ H s → t σ H Q →
    wpAny (model X.prog X.w) X.A (evalPart e X.env) (fun u s' => ∃ o H', Inv X pins σ H' s' ∧ IsPart u o ∧ Q o H') X.xe s
def tPart (t : TE) : TO := fun σ H Q => t σ H fun x H1 => ∃ i, x = .int i ∧ Q (some i) H1
section
variable {X : Cx} {e : Expr} {te : TE} {lo hi : Option Expr} {tl th : TO} {pos p2 : Pos}
theorem po_some (h : PE X e te) : PO X (some e) (tPart te) := by
  intro pins s σ H Q I hw
  rw [evalPart_some]
  refine thn (h pins s σ H _ I hw) fun u s1 ⟨x, H1, I1, r1, q1⟩ => ?_
  obtain ⟨i, rfl, q⟩ := q1
  obtain ⟨t, rfl⟩ := r1
  exact ⟨some i, H1, I1, .int i t, q⟩
end
end L2
namespace L2
open PySem PySem.Spec PyProof.Rows
def ixN (n : Nat) (i : Int) : Option Nat := if 0 ≤ i then (if i < n then some i.toNat else none) else if -(n : Int) ≤ i then some (i + n).toNat else none
def atI {α : Type} (xs : List α) (i : Int) : Option α := (ixN xs.length i).bind fun j => xs[j]?
theorem ixN_seq {n : Nat} {i : Int} {j : Nat} (h : ixN n i = some j) : seqIndex? i n = some j ∧ j < n ∧ -(n : Int) ≤ i ∧ i < n := by
  unfold ixN at h
  by_cases h0 : 0 ≤ i
  · rw [if_pos h0] at h
    by_cases h1 : i < n
    · rw [if_pos h1] at h
      have e : i.toNat = j := Option.some.inj h
      exact ⟨by rw [seqIndex_of h0 h1, e], by omega, by omega, h1⟩
    · rw [if_neg h1] at h; cases h
  · rw [if_neg h0] at h
    by_cases h1 : -(n : Int) ≤ i
    · rw [if_pos h1] at h
      have e : (i + n).toNat = j := Option.some.inj h
      exact ⟨by rw [seqIndex_neg (by omega) h1, e], by omega, h1, by omega⟩
    · rw [if_neg h1] at h; cases h
theorem atI_get {α : Type} {xs : List α} {i : Int} {v : α} (h : atI xs i = some v) : ∃ j, seqIndex? i xs.length = some j ∧ xs[j]? = some v ∧ j < xs.length ∧ -(xs.length : Int) ≤ i ∧ i < xs.length := by
  unfold atI at h
  cases e : ixN xs.length i with
  | none => rw [e] at h; cases h
  | some j =>
    rw [e] at h
    obtain ⟨h1, h2, h3, h4⟩ := ixN_seq e
    exact ⟨j, h1, h, h2, h3, h4⟩
theorem atI_nat {α : Type} {xs : List α} {j : Nat} {v : α} (h : xs[j]? = some v) : atI xs (j : Int) = some v := by
  have hj : j < xs.length := (List.getElem?_eq_some_iff.mp h).1
  have e : ixN xs.length (j : Int) = some j := by
    unfold ixN
    rw [if_pos (by omega), if_pos (by omega)]; simp
  unfold atI; rw [e]; exact h
theorem atI_last {α : Type} (xs : List α) (v : α) : atI (xs ++ [v]) (-1) = some v := by
  have hl : (xs ++ [v]).length = xs.length + 1 := by simp
  have e : ixN (xs ++ [v]).length (-1) = some xs.length := by
    unfold ixN
    rw [hl, if_neg (by decide), if_pos (by omega)]
    congr 1
    omega
  unfold atI
  rw [e]
  show (xs ++ [v])[xs.length]? = some v
  simp
def PlainIx (b : Expr) : Prop := ∀ o i, subscripted b false o i = operate [o, i] (getItem o i)
def IxR (X : Cx) (r : R2) : Prop :=
  ∀ (value slice : Expr) (pins : List (Addr × Obj)) (s : Shared) (σ : St) (H : Hp) (x y : V) (v u : Value) (Q : VK), Inv X pins σ H s → RelV x v → RelV y u → r x y H Q →
    subscripted slice false v u = operate [v, u] (getItem v u) → wpAny (model X.prog X.w) X.A (subscriptTail value slice v u) (EP X pins σ Q) X.xe s
def MtR (X : Cx) (id : String) (r : V → List V → Hp → VK → Prop) : Prop :=
  ∀ (pins : List (Addr × Obj)) (s : Shared) (σ : St) (H : Hp) (x : V) (xs : List V) (v : Value) (us : List Value) (Q : VK), Inv X pins σ H s → RelV x v → Vals xs us → r x xs H Q →
    wpAny (model X.prog X.w) X.A (call (.builtin id) (v :: us)) (EP X pins σ Q) X.xe s
section
variable {X : Cx} {a b : Expr} {ta tb : TE} {pos : Pos}
theorem pe_ix {r : R2} (hr : IxR X r) (ha : PE X a ta) (hb : PE X b tb) (hs : PlainIx b) : PE X (.Subscript a b pos) (tOp r ta tb) := by
  intro pins s σ H Q I h
  exact Subscript_ (binT ha hb I h fun v u s2 x y H2 I2 rx ry q => hr a b pins s2 σ H2 x y v u Q I2 rx ry q (hs _ _))
def rIxL (K : PySem.W.Frag) : R2 := fun x y H Q => ∃ p xs i v, x = .ref p ∧ y = .int i ∧ SqL K H p xs ∧ atI xs i = some v ∧ Q v H
def rIxT (K : PySem.W.Frag) : R2 := fun x y H Q => ∃ p xs i v, x = .ref p ∧ y = .int i ∧ SqT K H p xs ∧ atI xs i = some v ∧ Q v H
theorem ix_list : IxR X (rIxL X.K) := by
  intro value slice pins s σ H x y v u Q I rx ry h hs
  obtain ⟨p, xs, i, z, rfl, rfl, hq, he, q⟩ := h
  cases rx
  obtain ⟨t, rfl⟩ := ry
  obtain ⟨its, r, pl, hz⟩ := I.list hq
  obtain ⟨j, h1, h2, h3, h4, h5⟩ := atI_get he
  obtain ⟨w, ew, rw'⟩ := r.get h2
  have hl := r.length
  have hn := line63
  have fin : EP X pins σ Q w s := ⟨z, H, I, rw', q⟩
  by_cases h0 : 0 ≤ i
  · have hj : i.toNat = j := by
      rw [seqIndex_of h0 h5] at h1
      exact Option.some.inj h1
    exact item_listR pl.isList h0 (by omega) (by rw [hj]; simpa using ew) fin hs
  · have hj : (i + (its.toArray.size : Int)).toNat = j := by
      rw [seqIndex_neg (by omega) h4] at h1
      rw [List.size_toArray, ← hl]
      exact Option.some.inj h1
    exact subscriptTail_builtinR (x := w) pl.isList.typeIs slot_list_getitem.lookup
      (wpAny_getItem_list_neg (Q := fun r s' => r = w ∧ EP X pins σ Q r s') pl.isList (by omega) (by rw [List.size_toArray] <;> omega) (by omega) (by rw [hj]; simpa using ew) ⟨rfl, fin⟩) hs
theorem ix_tup : IxR X (rIxT X.K) := by
  intro value slice pins s σ H x y v u Q I rx ry h hs
  obtain ⟨p, xs, i, z, rfl, rfl, hq, he, q⟩ := h
  cases rx
  obtain ⟨t, rfl⟩ := ry
  obtain ⟨its, r, pl, hz⟩ := I.tuple hq
  obtain ⟨j, h1, h2, h3, h4, h5⟩ := atI_get he
  obtain ⟨w, ew, rw'⟩ := r.get h2
  have hl := r.length
  have hn := line63
  have fin : EP X pins σ Q w s := ⟨z, H, I, rw', q⟩
  exact subscriptTail_builtinR (x := w) pl.typeIs slot_tuple_getitem.lookup
    (getItem_tuple (j := j) (Q := fun r s' => r = w ∧ EP X pins σ Q r s') pl (by omega) (by omega) (by rw [List.size_toArray, ← hl]; exact h1) (by simpa using ew) ⟨rfl, fin⟩) hs
def flatV : V → Bool
  | .non => true
  | .bl _ => true
  | .int _ => true
  | .str _ => true
  | _ => false
def eqV : V → V → Bool
  | .non, .non => true
  | .bl a, .bl b => a == b
  | .bl a, .int b => (if a then 1 else 0) == b
  | .int a, .bl b => a == (if b then 1 else 0)
  | .int a, .int b => a == b
  | .str a, .str b => a == b
  | _, _ => false
theorem eqAt_V {A : Around} {s : Shared} {y x : V} {u v : Value} (ry : RelV y u) (rx : RelV x v) (fy : flatV y = true) (fx : flatV x = true) : SeqAt.EqAt A s u v (eqV y x) := by
  cases y with
  | non =>
    cases ry
    cases x with
    | non => cases rx; exact SeqAt.EqAt.same _
    | bl b => cases rx; exact SeqAt.EqAt.none_bool b
    | int b => obtain ⟨t, rfl⟩ := rx; exact SeqAt.EqAt.none_int b t
    | str b => obtain ⟨t, rfl⟩ := rx; exact SeqAt.EqAt.none_str b t
    | _ => exact absurd (show false = true from fx) Bool.false_ne_true
  | bl a =>
    cases ry
    cases x with
    | non => cases rx; exact SeqAt.EqAt.bool_none a
    | bl b => cases rx; exact SeqAt.EqAt.bool_bool a b
    | int b => obtain ⟨t, rfl⟩ := rx; exact SeqAt.EqAt.bool_int a b t
    | str b => obtain ⟨t, rfl⟩ := rx; exact SeqAt.EqAt.bool_str a b t
    | _ => exact absurd (show false = true from fx) Bool.false_ne_true
  | int a =>
    obtain ⟨t', rfl⟩ := ry
    cases x with
    | non => cases rx; exact SeqAt.EqAt.int_none a t'
    | bl b => cases rx; exact SeqAt.EqAt.int_bool a t' b
    | int b => obtain ⟨t, rfl⟩ := rx; exact SeqAt.EqAt.int_int a t' b t
    | str b => obtain ⟨t, rfl⟩ := rx; exact SeqAt.EqAt.int_str a t' b t
    | _ => exact absurd (show false = true from fx) Bool.false_ne_true
  | str a =>
    obtain ⟨t', rfl⟩ := ry
    cases x with
    | non => cases rx; exact SeqAt.EqAt.str_none a t'
    | bl b => cases rx; exact SeqAt.EqAt.str_bool a t' b
    | int b => obtain ⟨t, rfl⟩ := rx; exact SeqAt.EqAt.str_int a t' b t
    | str b => obtain ⟨t, rfl⟩ := rx; exact SeqAt.EqAt.str_str a t' b t
    | _ => exact absurd (show false = true from fx) Bool.false_ne_true
  | _ => exact absurd (show false = true from fy) Bool.false_ne_true
def eqU (x : V) (u : Value) : Bool := match u with
  | .none => eqV .non x
  | .bool b => eqV (.bl b) x
  | .int i _ => eqV (.int i) x
  | .str z _ => eqV (.str z) x
  | _ => false
theorem eqU_of {x y : V} {u : Value} (r : RelV y u) (f : flatV y = true) : eqU x u = eqV y x := by
  cases y with
  | non => cases r; rfl
  | bl b => cases r; rfl
  | int i => obtain ⟨t, rfl⟩ := r; rfl
  | str z => obtain ⟨t, rfl⟩ := r; rfl
  | _ => exact absurd (show false = true from f) Bool.false_ne_true
theorem mem_eqAt {A : Around} {s : Shared} {x : V} {v : Value} (rx : RelV x v) (fx : flatV x = true) : ∀ {xs : List V} {us : List Value}, Vals xs us → xs.all flatV = true → ∀ u ∈ us, SeqAt.EqAt A s u v (eqU x u)
  | _, _, .nil, _ => fun u hu => by cases hu
  | y :: xs, u :: us, .cons r t, f => fun u' hu => by
    rw [List.all_cons, Bool.and_eq_true] at f
    rcases List.mem_cons.mp hu with rfl | hu
    · rw [eqU_of r f.1]; exact eqAt_V r rx f.1 fx
    · exact mem_eqAt rx fx t f.2 u' hu
theorem call_len_seq : CallR X (.builtin "len") (fun xs H Q => ∃ p ys, xs = [.ref p] ∧ (SqL X.K H p ys ∨ SqT X.K H p ys) ∧ Q (.int ys.length) H) := by
  intro pins s σ H xs us Q I r h
  obtain ⟨p, ys, rfl, hq, q⟩ := h
  obtain ⟨u, rfl, rx⟩ := vals1 r
  cases rx
  have hn := line63
  rcases hq with hq | hq
  · obtain ⟨its, r', pl, hz⟩ := I.list hq
    have hlen := r'.length
    exact Calls.call_len_list pl.isList (by simp only [List.size_toArray] <;> omega) ⟨.int ys.length, H, I.tok _, ⟨s.toks + 1, by rw [List.size_toArray, hlen]⟩, q⟩
  · obtain ⟨its, r', pl, hz⟩ := I.tuple hq
    have hlen := r'.length
    exact len_tuple pl (by simp only [List.size_toArray] <;> omega) ⟨.int ys.length, H, I.tok _, ⟨s.toks + 1, by rw [List.size_toArray, hlen]⟩, q⟩
def tyV (K : PySem.W.Frag) (T : String) (x : V) (H : Hp) : Prop := match x with
  | .str _ => T = "str"
  | .int _ => T = "int"
  | .ref p => (T = "list" ∧ ∃ xs, SqL K H p xs) ∨ (T = "tuple" ∧ ∃ o, K.lookup p = some o ∧ o.cls = .type "tuple" ∧ o.dict = none) ∨
      (T = "dict" ∧ ((∃ kvs, H p = some (.dK kvs)) ∨ ∃ kvs, H p = some (.dT kvs))) ∨ (T = "set" ∧ ∃ S n, H p = some (.set S n))
  | _ => False
theorem tyV_is {pins : List (Addr × Obj)} {σ : St} {H : Hp} {s : Shared} {T : String} {x : V} {v : Value} (I : Inv X pins σ H s) (r : RelV x v) (ty : tyV X.K T x H) :
    s.TypeIs v T ∧ ∀ a, v = .ref a → ∃ ob, s.heap.get? a = some ob ∧ ob.dict = none := by
  cases x with
  | str z =>
    obtain ⟨t, rfl⟩ := r
    cases (show T = "str" from ty)
    exact ⟨typeIs_str s z t, fun _ e => nomatch e⟩
  | int i =>
    obtain ⟨t, rfl⟩ := r
    cases (show T = "int" from ty)
    exact ⟨typeIs_int s i t, fun _ e => nomatch e⟩
  | ref p =>
    cases r
    rcases ty with ⟨rfl, xs, hq⟩ | ⟨rfl, o, hk, hc, hd⟩ | ⟨rfl, hk⟩ | ⟨rfl, S, n, hk⟩
    · obtain ⟨its, _, pl, _⟩ := I.list hq
      refine ⟨pl.isList.typeIs, fun a e => ?_⟩
      cases e
      obtain ⟨o, n, e, c, hd, _⟩ := pl
      exact ⟨o, e, hd⟩
    · refine ⟨⟨o, I.kIn p o hk, hc⟩, fun a e => ?_⟩
      cases e
      exact ⟨o, I.kIn _ o hk, hd⟩
    · have z : ∃ o, s.heap.get? p = some o ∧ o.ExactDict := by
        rcases hk with ⟨kvs, hk⟩ | ⟨kvs, hk⟩
        · obtain ⟨_, _, _, _, o, _, _, e, ex, _⟩ := I.hok p _ hk
          exact ⟨o, e, ex⟩
        · obtain ⟨_, _, _, _, o, _, _, e, ex, _⟩ := I.hok p _ hk
          exact ⟨o, e, ex⟩
      obtain ⟨o, e, ex⟩ := z
      refine ⟨⟨o, e, ex.1⟩, fun a e2 => ?_⟩
      cases e2
      exact ⟨o, e, ex.2.1⟩
    · obtain ⟨o, _, _, _, e, ex, _⟩ := I.hok p _ hk
      refine ⟨⟨o, e, ex.1⟩, fun a e2 => ?_⟩
      cases e2
      exact ⟨o, e, ex.2.1⟩
  | _ => exact False.elim ty
def tBM0 (K : PySem.W.Frag) (T : String) (r : V → List V → Hp → VK → Prop) (to : TE) : TE := fun σ H Q => to σ H fun x H1 => tyV K T x H1 ∧ r x [] H1 Q
def tBM (K : PySem.W.Frag) (T : String) (r : V → List V → Hp → VK → Prop) (to : TE) (t : TA) : TE := fun σ H Q => to σ H fun x H1 => tyV K T x H1 ∧ t σ H1 fun xs H2 => r x xs H2 Q
variable {o e : Expr} {es : List Expr} {to : TE} {t : TA} {name : Str} {apos cpos : Pos} {T id : String} {r : V → List V → Hp → VK → Prop}
theorem pe_bm0 (pa : PlainAttrs T) (slot : Slot T name id) (hty : typeOf (.builtin id) = pure (.type "method_descriptor")) (hm : MtR X id r) (ho : PE X o to)
    (hbase : attributeBase o name X.env (eval o X.env) = eval o X.env := by rfl) (hline : (apos.endLine == cpos.line) = true := by rfl) : PE X (.Call (.Attribute o name apos) [] [] cpos) (tBM0 X.K T r to) := by
  intro pins s σ H Q I h
  refine wpAny_Call_method0_late hbase hline (thn (ho pins s σ H _ I h) fun v s1 ⟨x, H1, I1, r1, ty, q1⟩ => ?_)
  obtain ⟨h1, h2⟩ := tyV_is I1 r1 ty
  exact ⟨T, id, pa, slot, hty, h1, h2, Calls.callWith_builtin rfl (PySem.evalArgs_none (hm pins s1 σ H1 x [] v [] Q I1 r1 .nil q1))⟩
theorem pe_bm (pa : PlainAttrs T) (slot : Slot T name id) (hty : typeOf (.builtin id) = pure (.type "method_descriptor")) (hm : MtR X id r) (ho : PE X o to) (ha : PA X (e :: es) t)
    (hbase : attributeBase o name X.env (eval o X.env) = eval o X.env := by rfl)
    (hfew : ((backTo cpos (starEach (e :: es) X.env)).all (fun x => !x.1) && (backToKw cpos (keywordEach [] X.env)).all (fun x => x.1.isSome)
      && decide ((e :: es).length + ([] : List Keyword).length + (if ([] : List Keyword).isEmpty then 0 else 1) < 30)) = true := by rfl)
    (hline : (apos.endLine == cpos.line) = true := by rfl) (hs : starEach (e :: es) X.env = (false, eval e X.env) :: starEach es X.env := by rfl) (hplain : (backTo cpos (starEach es X.env)).any (·.1) = false := by rfl) :
    PE X (.Call (.Attribute o name apos) (e :: es) [] cpos) (tBM X.K T r to t) := by
  intro pins s σ H Q I h
  refine wpAny_Call_method_late hbase hfew hline rfl (thn (ho pins s σ H _ I h) fun v s1 ⟨x, H1, I1, r1, ty, q1⟩ => ?_)
  obtain ⟨h1, h2⟩ := tyV_is I1 r1 ty
  refine ⟨T, id, pa, slot, hty, h1, h2, ?_⟩
  have hA := ha cpos pins s1 σ H1 _ I1 q1
  rw [hs] at hA ⊢
  refine Calls.callWith_builtin (by show (false || (backTo cpos (starEach es X.env)).any (·.1)) = false; rw [hplain] <;> rfl) (Calls.evalArgs_plain ?_)
  exact thn hA fun us s2 ⟨vs, H2, I2, r2, q2⟩ => hm pins s2 σ H2 x vs v us Q I2 r1 r2 q2
end
end L2
namespace L2
open PySem PySem.Spec PyProof.Rows
def MtM (X : Cx) (id : String) (r : V → List V → Hp → VK → Prop) : Prop :=
  ∀ (pins : List (Addr × Obj)) (s : Shared) (σ : St) (H : Hp) (x : V) (xs : List V) (v : Value) (us : List Value) (Q : VK), Inv X pins σ H s → RelV x v → Vals xs us → r x xs H Q →
    wpAny (model X.prog X.w) X.A (call (.builtin id) (v :: us)) (EP X pins σ Q) X.xe s
theorem Vals.one : ∀ {x : V} {us : List Value}, Vals [x] us → ∃ u, us = [u] ∧ RelV x u
  | _, _, .cons r .nil => ⟨_, rfl, r⟩
theorem Vals.zero : ∀ {us : List Value}, Vals [] us → us = []
  | _, .nil => rfl
theorem Vals.dropLast {xs : List V} {us : List Value} (h : Vals xs us) : Vals xs.dropLast us.dropLast := by
  induction h with
  | nil => exact .nil
  | cons r t ih =>
    cases t with
    | nil => exact .nil
    | cons q t' => exact .cons r ih
theorem Vals.reverse {xs : List V} {us : List Value} (h : Vals xs us) : Vals xs.reverse us.reverse := by
  induction h with
  | nil => exact .nil
  | cons r t ih => rw [List.reverse_cons, List.reverse_cons]; exact Vals.append ih (.cons r .nil)
theorem Vals.rep {xs : List V} {us : List Value} (h : Vals xs us) : ∀ k : Nat, Vals (List.replicate k xs).flatten (List.replicate k us).flatten
  | 0 => .nil
  | k + 1 => by
    rw [List.replicate_succ, List.replicate_succ, List.flatten_cons, List.flatten_cons]
    exact Vals.append h (Vals.rep h k)
theorem erase_last {α : Type} (l : List α) : l.eraseIdx (l.length - 1) = l.dropLast := by
  induction l with
  | nil => rfl
  | cons a r ih =>
    cases r with
    | nil => rfl
    | cons b r =>
      have e : (a :: b :: r).length - 1 = ((b :: r).length - 1) + 1 := by
        have h1 : (a :: b :: r).length = r.length + 2 := rfl
        have h2 : (b :: r).length = r.length + 1 := rfl
        omega
      rw [e, List.eraseIdx_cons_succ, ih]
      all_goals rfl
theorem foldl_rep (its : List Value) : ∀ (k : Nat) (acc : List Value),
    List.foldl (fun x1 x2 => x1 ++ x2) acc.toArray (List.replicate k its.toArray) = (acc ++ (List.replicate k its).flatten).toArray
  | 0, acc => by simp
  | k + 1, acc => by
    have e : acc.toArray ++ its.toArray = (acc ++ its).toArray := by simp
    have e2 : (acc ++ its) ++ (List.replicate k its).flatten = acc ++ (List.replicate (k + 1) its).flatten := by
      rw [List.replicate_succ, List.flatten_cons, List.append_assoc]
    rw [← e2, ← foldl_rep its k (acc ++ its), ← e, List.replicate_succ, List.foldl_cons]
section
variable {X : Cx} {pins : List (Addr × Obj)} {σ : St} {H : Hp} {s : Shared} {l b : Addr} {xs ys zs : List V}
theorem Inv.lset {its its' : List Value} {n : Nat} {f : Array Value → Array Value} {t' : Nat} (I : Inv X pins σ H s) (hH : H l = some (.lst xs))
    (e : s.heap.get? l = some { cls := .type "list", data := .seq its.toArray n }) (hf : f its.toArray = its'.toArray) (hv : Vals ys its') (hz : ys.length ≤ sizeLine) :
    Inv X pins σ (upd H l (.lst ys)) { s with heap := s.heap.update l (Obj.mapSeq f), toks := t' } := by
  have q := PySem.IsL.update e f
  rw [hf] at q
  refine I.write (x := l) (e := l) (by rw [hH]; exact trivial) (.inl rfl) (fun b' u hb hu => (Heap.get?_update_other s.heap (Obj.mapSeq f) (Ne.symm hb)).trans hu) ⟨_, q⟩ ?_
  exact ⟨hz, its', _, hv, q⟩
theorem Inv.lnew {its : List Value} {t' : Nat} (I : Inv X pins σ H s) (hv : Vals ys its) (hz : ys.length ≤ sizeLine) :
    Inv X pins σ (upd H s.heap.objs.size (.lst ys)) { s with heap := s.heap.push { cls := .type "list", data := .seq its.toArray }, toks := t' } :=
  I.laid (fun _ _ q => Heap.get?_push_of_some _ q) (Nat.le_refl _) ⟨hz, its, 0, hv, Heap.get?_push_size _ rfl⟩
theorem Inv.fresh (I : Inv X pins σ H s) : H s.heap.objs.size = none := I.hok.fresh (Nat.le_refl _)
theorem Inv.lstM (I : Inv X pins σ H s) (hH : H l = some (.lst xs)) : xs.length ≤ sizeLine ∧ ∃ (its : List Value) (n : Nat), Vals xs its ∧ xs.length = its.length ∧ s.heap.get? l = some { cls := .type "list", data := .seq its.toArray n } := by
  obtain ⟨z, its, n, r, e⟩ := I.hok l _ hH
  exact ⟨z, its, n, r, r.length, e⟩
theorem notLongL {n : Nat} (h : n ≤ sizeLine) : Builtin.List.listTooLong n = false := by
  unfold Builtin.List.listTooLong
  exact decide_eq_false (by omega)
end
section
variable {X : Cx}
def rAppend : V → List V → Hp → VK → Prop := fun x vs H Q => ∃ l xs y, x = .ref l ∧ vs = [y] ∧ H l = some (.lst xs) ∧ xs.length < sizeLine ∧ Q .non (upd H l (.lst (xs ++ [y])))
theorem mt_append : MtM X "list.append" rAppend := by
  intro pins s σ H x vs v us Q I rx rv h
  obtain ⟨l, xs, y, rfl, rfl, hH, hz, q⟩ := h
  cases rx
  obtain ⟨u, rfl, ru⟩ := rv.one
  obtain ⟨z, its, n, r, hl, e⟩ := I.lstM hH
  refine call_meets F.slot_list_append ⟨_, e, rfl⟩ F.entry_list_append (F.args_list_append_2 _ _) (PySem.list_append l its.toArray n u (by rw [List.size_toArray]; omega)) ⟨e, ?_⟩
  refine ⟨.non, _, I.lset (its' := its ++ [u]) hH e (by simp) (r.append (.cons ru .nil)) ?_, rfl, q⟩
  rw [List.length_append, List.length_singleton]
  omega
def rExtend : V → List V → Hp → VK → Prop := fun x vs H Q => ∃ l b xs zs, x = .ref l ∧ vs = [.ref b] ∧ H l = some (.lst xs) ∧ H b = some (.lst zs) ∧ xs.length + zs.length ≤ sizeLine ∧ Q .non (upd H l (.lst (xs ++ zs)))
theorem mt_extend : MtM X "list.extend" rExtend := by
  intro pins s σ H x vs v us Q I rx rv h
  obtain ⟨l, b, xs, zs, rfl, rfl, hH, hB, hz, q⟩ := h
  cases rx
  obtain ⟨u, rfl, ru⟩ := rv.one
  cases ru
  obtain ⟨z, its, n, r, hl, e⟩ := I.lstM hH
  obtain ⟨z2, its2, n2, r2, hl2, e2⟩ := I.lstM hB
  have hsz : its.toArray.size + its2.toArray.size ≤ sizeLine := by rw [List.size_toArray, List.size_toArray]; omega
  have hlong : ¬ (!its.toArray.isEmpty && Builtin.List.listTooLong (its.toArray.size + its2.toArray.size)) = true := by
    rw [notLongL hsz, Bool.and_false]
    exact Bool.false_ne_true
  refine call_meets F.slot_list_extend ⟨_, e, rfl⟩ F.entry_list_extend (F.args_list_extend_2 _ _)
    (AutoSeq1.list_extend_list_list_0 l its.toArray n b its2.toArray n2 hlong (by rw [List.size_toArray]; omega) (by omega)) ⟨e, e2, ?_⟩
  refine ⟨.non, _, I.lset (its' := its ++ its2) hH e (by simp) (r.append r2) ?_, rfl, q⟩
  rw [List.length_append]
  omega
def rPop : V → List V → Hp → VK → Prop := fun x vs H Q => ∃ l xs y, x = .ref l ∧ vs = [] ∧ H l = some (.lst xs) ∧ xs[xs.length - 1]? = some y ∧ Q y (upd H l (.lst xs.dropLast))
theorem mt_pop : MtM X "list.pop" rPop := by
  intro pins s σ H x vs v us Q I rx rv h
  obtain ⟨l, xs, y, rfl, rfl, hH, hy, q⟩ := h
  cases rx
  have hus := rv.zero
  subst hus
  obtain ⟨z, its, n, r, hl, e⟩ := I.lstM hH
  obtain ⟨u, hu, ru⟩ := r.get hy
  have hy' : its.toArray[its.toArray.size - 1]? = some u := by
    show its.toArray[its.length - 1]? = some u
    rw [← Array.getElem?_toList, ← hl]
    exact hu
  refine call_meets F.slot_list_pop ⟨_, e, rfl⟩ F.entry_list_pop (F.args_list_pop_1 _) (MeetsSeq.list_pop_last l its.toArray n u hy' (by rw [List.size_toArray]; omega)) ⟨e, ?_⟩
  refine ⟨y, _, I.lset (its' := its.dropLast) hH e ?_ r.dropLast ?_, ru, q⟩
  · show its.toArray.eraseIdxIfInBounds (its.toArray.size - 1) = its.dropLast.toArray
    rw [List.size_toArray, List.eraseIdxIfInBounds_toArray, erase_last]
  · rw [List.length_dropLast]
    omega
def rCat : R2 := fun x y H Q => ∃ l b xs zs, x = .ref l ∧ y = .ref b ∧ H l = some (.lst xs) ∧ H b = some (.lst zs) ∧ xs.length + zs.length ≤ sizeLine ∧ ∀ p, H p = none → Q (.ref p) (upd H p (.lst (xs ++ zs)))
theorem op_cat : OpR X (binaryOp .Add) rCat := by
  intro pins s σ H x y v u Q I rx ry h
  obtain ⟨l, b, xs, zs, rfl, rfl, hH, hB, hz, q⟩ := h
  cases rx
  cases ry
  obtain ⟨z, its, n, r, hl, e⟩ := I.lstM hH
  obtain ⟨z2, its2, n2, r2, hl2, e2⟩ := I.lstM hB
  refine PySem.P.add_list e e2 ?_ (by rw [List.size_toArray, List.size_toArray]; omega)
  have ea : its.toArray ++ its2.toArray = (its ++ its2).toArray := by simp
  rw [ea]
  exact ⟨.ref _, _, I.lnew (t' := s.toks) (r.append r2) (by rw [List.length_append]; omega), rfl, q _ I.fresh⟩
def rRep : R2 := fun x y H Q => ∃ l k xs, x = .ref l ∧ y = .int k ∧ H l = some (.lst xs) ∧ -(2 ^ 63) ≤ k ∧ k < 2 ^ 63 ∧ xs.length * k.toNat ≤ sizeLine ∧
  ∀ p, H p = none → Q (.ref p) (upd H p (.lst (List.replicate k.toNat xs).flatten))
theorem len_rep {α : Type} (xs : List α) (k : Nat) : (List.replicate k xs).flatten.length = k * xs.length := by
  induction k with
  | zero => simp
  | succ k ih => rw [List.replicate_succ, List.flatten_cons, List.length_append, ih, Nat.succ_mul, Nat.add_comm]
theorem op_rep : OpR X (binaryOp .Mult) rRep := by
  intro pins s σ H x y v u Q I rx ry h
  obtain ⟨l, k, xs, rfl, rfl, hH, h1, h2, hz, q⟩ := h
  cases rx
  obtain ⟨t, rfl⟩ := ry
  obtain ⟨z, its, n, r, hl, e⟩ := I.lstM hH
  have hlen : its.toArray.size * k.toNat ≤ sizeLine := by rw [List.size_toArray, ← hl]; exact hz
  have hcap : ¬ its.toArray.size * k.toNat > (2 ^ 63 - 1) / 8 := by
    have : (sizeLine : Nat) ≤ (2 ^ 63 - 1) / 8 := by decide
    omega
  have hfit : ¬ (!Builtin.List.listFitsIndex k) = true := by
    rw [fitsIndex_both h1 h2]
    exact Bool.false_ne_true
  have hlong : ¬ Builtin.List.listTooLong (its.toArray.size * k.toNat) = true := by
    rw [notLongL hlen]
    exact Bool.false_ne_true
  have hnew : List.foldl (fun x1 x2 => x1 ++ x2) #[] (List.replicate (if its.toArray.isEmpty = true then 0 else k.toNat) its.toArray) = (List.replicate k.toNat its).flatten.toArray := by
    have f0 : ∀ m : Nat, List.foldl (fun x1 x2 => x1 ++ x2) #[] (List.replicate m its.toArray) = (List.replicate m its).flatten.toArray := fun m => by
      have := foldl_rep its m []
      rw [List.nil_append] at this
      exact this
    rw [f0]
    cases its with
    | nil => simp
    | cons a r' => rw [if_neg (by simp)]
  refine wpAny_binaryOp_repeat_ref (T := "list") (U := "int") (by decide) ⟨_, e, rfl⟩ (fun s' => typeIs_int s' k t) noFill_list_mul F.fills_int_mul F.slot_int_rmul repeat_list F.slot_int_index.lookup
    (call_meets F.slot_int_rmul (typeIs_int s k t) F.entry_int_rmul (F.args_int_rmul_2 _ _) (int___rmul___int_list k t l its.toArray n)
      ⟨e, rfl, ⟨_, e, rfl⟩, call_meets F.slot_list_mul ⟨_, e, rfl⟩ F.entry_list_mul (F.args_list_mul_2 _ _) (AutoListH.list___mul___list_int_3 l its.toArray n k t hfit hcap hlong) ⟨e, ?_⟩⟩)
  rw [hnew]
  exact ⟨.ref _, _, I.lnew (t' := s.toks) (r.rep k.toNat) (by rw [len_rep, Nat.mul_comm]; exact hz), rfl, q _ I.fresh⟩
end
section
variable {prog : Program} {w : World} {A : Around} {E : Value → Shared → Prop} {s : Shared}
set_option maxRecDepth 100000 in
end
section
variable {X : Cx}
end
end L2
namespace L2
open PySem PySem.Spec PyProof.Rows
section
variable {κ : Type} [DecidableEq κ]
end
section
variable {P : Program} {w : World} {H : Hp} {h : Heap} {a : Addr}
end
section
variable {X : Cx} {pins : List (Addr × Obj)} {σ : St} {H : Hp} {s : Shared} {a : Addr} {y v : V} {u r : Value} {o : Option V} {A : Around} {E : Value → Shared → Prop}
end
section
variable {X : Cx} {pins : List (Addr × Obj)} {σ : St} {H : Hp} {s : Shared} {a : Addr} {kvs : List (Key × V)} {k : Key} {u : Value} {A : Around} {E : Value → Shared → Prop}
end
section
variable {X : Cx} {o i e value : Expr} {pos pos' tpos : Pos} {td ty tv : TE}
end
section
variable {X : Cx} {pos : Pos}
end
section
variable {X : Cx} {pins : List (Addr × Obj)} {σ : St} {H : Hp} {s : Shared} {a : Addr} {y d : V} {u r : Value} {o : Option V} {A : Around} {E : Value → Shared → Prop}
end
section
variable {X : Cx} {o e f : Expr} {apos cpos : Pos} {td ty tx : TE}
end
section
variable {X : Cx} {pins : List (Addr × Obj)} {σ : St} {H : Hp} {s : Shared} {a : Addr} {kvs : List (Key × V)} {A : Around} {E : Value → Shared → Prop}
end
section
variable {X : Cx} {pins : List (Addr × Obj)} {σ : St} {H : Hp} {s : Shared} {a : Addr} {y : V} {u : Value} {A : Around} {E : Value → Shared → Prop}
end
end L2
namespace Att
open PySem PySem.W PySem.Calls PyProof.Rows
theorem ints_of_wellAll {P : Params} {h : Heap} : ∀ (ns : List Int) (vs : List Value), WellAll P h vs (ns.map WData.int) → IntsAre vs ns := by
  intro ns
  induction ns with
  | nil =>
    intro vs w
    rw [List.map_nil] at w
    cases w
    exact .nil
  | cons n ns ih =>
    intro vs w
    rw [List.map_cons] at w
    cases w with
    | cons a b =>
      cases a
      exact .cons _ _ (ih _ b)
theorem script_of {l : OpenLaw} {n : Nat} (hn : l.most = some n) {P : Params} {h : Heap} {args : List WData} {vals : List Value}
    (hpre : l.row.toRowW.claim.pre args = true) (hwl : WellAll P h vals args) :
    ∃ a vs ns, vals = [Value.ref a] ∧ args = [WData.list (ns.map WData.int)] ∧ h.get? a = some { cls := .type "list", data := .seq vs.toArray } ∧ IntsAre vs ns ∧ ns.length ≤ n := by
  have hsh : WShape.hasAll [] args [.list .int] = true := (pre_splitW hpre).1
  have hc : l.pre.holds [] { args := args } = true := (pre_splitW hpre).2
  obtain ⟨d, r, rfl, h1, h2⟩ := hasAllW_cons hsh
  obtain rfl := hasAllW_nil h2
  obtain ⟨xs, rfl, h3⟩ := hasW_list h1
  obtain ⟨ns, rfl⟩ := items_int h3
  have hlen : ns.length ≤ n := by
    unfold OpenLaw.pre at hc
    have h4 : (WTm.not (.lt (.lit (.int (n : Int))) (.len (.arg 0)))).holds [] { args := [.list (ns.map .int)] } = true := by
      have h4 := (holds_andW hc).1
      rw [hn] at h4
      exact h4
    have h5 := condW_of h4 (w_not (w_lt w_lit (w_len_list (w_arg rfl))))
    rw [List.length_map] at h5
    refine Nat.le_of_not_lt fun q => ?_
    have q' : (n : Int) < ((ns.length : Nat) : Int) := by omega
    first
      | (rw [decide_eq_true q'] at h5; exact absurd h5 (by decide))
      | (simp at h5; omega)
  cases hwl with
  | cons w1 w2 =>
    cases w2
    cases w1 with
    | list ho hall => exact ⟨_, _, ns, rfl, rfl, ho, ints_of_wellAll ns _ hall, hlen⟩
theorem post_true (l : OpenLaw) (args : List WData) : l.row.toRowW.claim.post args (.bool true) args = true :=
  postW_of (r := l.row.toRowW) (X := (true == true))
    (show WShape.has [] (.bool true) .bool = true by first | rfl | decide | simp [WShape.has, WShape.arms, WShape.armsAll])
    (show (WTm.eq .res (.lit (.bool true))).value [] { args := args, res := some (.bool true), after := args } = some (.bool (true == true)) from w_eq_bool (w_res rfl) w_lit) rfl
theorem attach_call {l : OpenLaw} {n : Nat} {q : Program} {loose : List Str} {XP : (Str → Option Value) → Heap → Prop} {YP : World → Heap → Prop} {d : DefRec}
    (hn : l.most = some n) (hdf : d.params.defaults = [])
    (call : ∀ (w : World) (s₀ s₁ : Shared) (mg mb : Str → Option Value) (fa : Addr) (o : Obj) (pm cd doc : Value) (a : Addr) (vs : List Value) (ns : List Int),
      Ground q loose [] XP w s₀ mg mb s₁.heap → YP w s₁.heap →
      s₁.heap.get? fa = some o → o.data = .func (docDef d.name d.params d.body d.scope pm cd doc) → s₁.heap.CodeRec cd d.name → mg d.name = some (.ref fa) →
      s₁.heap.get? a = some { cls := .type "list", data := .seq vs.toArray } → IntsAre vs ns → ns.length ≤ n → s₁.gens = #[] →
      codeAny (model l.prog w) callerA (.call (.ref fa) ⟨[.ref a], []⟩) (fun r s' => r = .ok (.ret (.bool true)) ∧ OldK s₁.heap s'.heap ∧ s'.os = s₁.os ∧ AllBare s'.gens) s₁) :
    WalkO q loose XP YP l.row.toRowW d [] (fun f vs => PySem.call f vs) := by
  intro w s₀ s₁ mg mb G Y fa o pm cd doc dV kV ho hd hcd hD hmg hg args vals as hpre hlay hrd hwl hlo
  obtain rfl : dV = .none := Dflts.none hD hdf
  obtain rfl : kV = .none := Dflts.noKw hD
  obtain ⟨a, vs, ns, rfl, rfl, hobj, hints, hlen⟩ := script_of hn hpre hwl
  refine enter_call (codeAny_mono (call w s₀ s₁ mg mb fa o pm cd doc a vs ns G Y ho (fd_plain hd) hcd hmg hobj hints hlen hg) fun r s' hq => ?_)
  obtain ⟨rfl, h2, h3, h4⟩ := hq
  exact ⟨.inl ⟨.bool true, .bool true, [], rfl, fun _ => rfl, .bool true, post_true l _, fun _ => ⟨List.Pairwise.nil, fun _ hm => (nomatch hm)⟩⟩, h2, h3, h4⟩
section
variable {prog : Program} {w : World} {A : Around} {E : Value → Shared → Prop} {s : Shared} {K : Frag}
end
end Att
namespace L2
open PySem PySem.Spec PyProof.Rows
theorem vals_ints : ∀ {vs : List Value} {ns : List Int}, IntsAre vs ns → Vals (ns.map V.int) vs
  | _, _, .nil => .nil
  | _, _, .cons n t h => .cons ⟨t, rfl⟩ (vals_ints h)
def Only (H : Hp) : Prop := ∀ b, H b = none ∨ ∃ o xs, H b = some (.frz o (.lst xs))
theorem law_call {P : Program} {w : World} {K : PySem.W.Frag} {mg mb : Str → Option Value} {CX : CXT} {k : Nat} {fa a : Addr} {fd : FuncData} {x : Str} {sp : Sp} {s₁ : Shared} {vs : List Value} {ns : List Int}
    (KX : K.In s₁.heap) (hns : s₁.heap.Ns mainGlobals mg) (hb : s₁.heap.Ns builtinsNs mb) (hbb : ∀ x : Str, x ≠ "__name__" → mb x = bootBuiltins x) (hlim : s₁.heap.NoLimit) (hg : s₁.gens = #[])
    (ha : s₁.heap.get? a = some { cls := .type "list", data := .seq vs.toArray }) (hi : IntsAre vs ns) (hl : ns.length ≤ sizeLine) (hr : Room k callerA)
    (F : ∀ base : Heap, K.In base → base.Ns mainGlobals mg → FnOk P w K mg base CX k fa fd [x] sp) (hbind : ∀ (s : Shared) (u : Value), BindsTo s fd ⟨[u], []⟩ [(x, u)])
    (hsp : ∀ H : Hp, Only H → SqL K H a (ns.map V.int) → sp [.ref a] H (fun v _ => v = .bl true) fun _ _ _ => False)
    (hCX : ∀ H e s', CX [] H s₁ (fun _ _ _ => False) e s' → False) :
    codeAny (model P w) callerA (.call (.ref fa) ⟨[.ref a], []⟩) (fun r s' => r = .ok (.ret (.bool true)) ∧ OldK s₁.heap s'.heap ∧ s'.os = s₁.os ∧ AllBare s'.gens) s₁ := by
  have rv := vals_ints hi
  have lenV := hi.length
  have core : ∀ H : Hp, Only H → SqL K H a (ns.map V.int) → HOk P w H s₁.heap → (∀ b, H b ≠ none → b = a) → (H a ≠ none → K.lookup a = none) →
      codeAny (model P w) callerA (.call (.ref fa) ⟨[.ref a], []⟩) (fun r s' => r = .ok (.ret (.bool true)) ∧ OldK s₁.heap s'.heap ∧ s'.os = s₁.os ∧ AllBare s'.gens) s₁ := by
    intro H hO hS hok hA hK
    have base_of : ∀ {b : Addr} {o : Obj}, s₁.heap.get? b = some o → H b = none → (hidT s₁.heap H).get? b = some o := fun e n => hidT_get e n
    have noA : ∀ {b : Addr} {o : Obj} {es : Array DictEntry} {ep : Nat}, s₁.heap.get? b = some o → o.data = .dict es ep → H b = none := fun {b o es ep} e d => by
      cases q : H b with
      | none => rfl
      | some u =>
        have e' : b = a := hA b (by rw [q]; simp)
        subst e'
        rw [ha] at e; cases e
        have d' : Data.seq vs.toArray _ = Data.dict es ep := d
        cases d'
    have nsK : ∀ {b : Addr} {m : Str → Option Value}, s₁.heap.Ns b m → (hidT s₁.heap H).Ns b m := fun {b m} ⟨o, es, ep, e, d, r⟩ => ⟨o, es, ep, base_of e (noA e d), d, r⟩
    have hKb : K.In (hidT s₁.heap H) := fun b o e => base_of (KX b o e) (by
      cases q : H b with
      | none => rfl
      | some u =>
        have e' : b = a := hA b (by rw [q]; simp)
        subst e'
        rw [hK (by rw [q]; simp)] at e; cases e)
    have hM : Mod K mg (hidT s₁.heap H) := ⟨hKb, nsK hns, ⟨mb, nsK hb, hbb⟩, let ⟨mc, h1, h2⟩ := hlim; ⟨mc, nsK h1, h2⟩⟩
    have e0 : Env0 P w K mg (hidT s₁.heap H) callerA [] s₁ H := ⟨rfl, hM, fun b o e => of_hidT e, Nat.le_of_eq (hidT_size _ _), trivial, fun b hb => absurd (show b ∈ ([] : List Addr) from hb) (by simp), hok, .of_eq hg⟩
    refine codeAny_mono ((F _ hKb (nsK hns)).run callerA [] s₁ H ⟨[.ref a], []⟩ [.ref a] [.ref a] _ _ hr e0 (hbind s₁ (.ref a)) (.cons rfl .nil) (hsp H hO hS)) fun r s' h => ?_
    cases r with
    | error e => exact (hCX H e s' h).elim
    | ok fl =>
      cases fl with
      | next => exact False.elim h
      | brk => exact False.elim h
      | cont => exact False.elim h
      | ret u =>
        obtain ⟨v, H', os, bare, un, hok', r', q⟩ := h
        have q' : v = .bl true := q
        subst q'
        obtain rfl : u = Value.bool true := r'
        refine ⟨rfl, OldK.of_keep fun b o e => ?_, os, bare⟩
        cases q : H b with
        | none => exact un.keep b o e q (by intro z; exact absurd (show b ∈ ([] : List Addr) from z) (by simp)) (by simp)
        | some u =>
          rcases hO b with z | ⟨ob, xs, z⟩
          · rw [q] at z; cases z
          · have z2 := un.frzs b ob _ z
            obtain ⟨e1, _⟩ := hok b _ z
            obtain ⟨e2, _⟩ := hok' b _ z2
            rw [e] at e1; cases e1
            exact e2
  cases hk : K.lookup a with
  | some o =>
    have e := KX a o hk
    rw [ha] at e
    cases e
    refine core (fun _ => none) (fun _ => .inl rfl) (.inr ⟨_, vs.toArray, _, hk, rfl, rfl, rfl, by rw [List.size_toArray, lenV]; exact hl, by simpa using rv⟩) (fun b u z => by have z' : (none : Option HO) = some u := z; cases z') (fun b z => absurd rfl z) fun z => absurd rfl z
  | none =>
    refine core (fun b => if b = a then some (.frz { cls := .type "list", data := .seq vs.toArray } (.lst (ns.map V.int))) else none) (fun b => ?_) (.inl (.inr ⟨{ cls := .type "list", data := .seq vs.toArray }, if_pos rfl⟩)) (fun b u z => ?_) (fun b z => ?_) fun _ => hk
    · by_cases hb : b = a
      · exact .inr ⟨_, _, if_pos hb⟩
      · exact .inl (if_neg hb)
    · by_cases hb : b = a
      · have z' := (if_pos hb).symm.trans z
        cases z'
        subst hb
        exact ⟨ha, by rw [List.length_map]; exact hl, vs, _, rv, ha⟩
      · have z' := (if_neg hb).symm.trans z
        cases z'
    · by_cases hb : b = a
      · exact hb
      · exact absurd (if_neg hb) z
end L2
namespace L2
open PySem PySem.Spec PyProof.Rows
theorem walk_of {l : PySem.W.OpenLaw} {n k : Nat} {q : Program} {loose : List Str} {XP : (Str → Option Value) → Heap → Prop} {YP : World → Heap → Prop} {d : DefRec} {K : Params → PySem.W.Frag} {CX : World → CXT} {sp : World → Sp} {x : Str}
    (hn : l.most = some n) (hn2 : n ≤ sizeLine) (hdf : d.params.defaults = []) (hr : Room k callerA)
    (hY : ∀ (w : World) (h : Heap), YP w h → (K w.params).In h)
    (F : ∀ (w : World) (mg : Str → Option Value) (fa : Addr) (h : Heap), (K w.params).In h → h.Ns mainGlobals mg → mg d.name = some (.ref fa) →
      ∃ fd : FuncData, (∀ (s : Shared) (u : Value), BindsTo s fd ⟨[u], []⟩ [(x, u)]) ∧
        ∀ base : Heap, (K w.params).In base → base.Ns mainGlobals mg → FnOk l.prog w (K w.params) mg base (CX w) k fa fd [x] (sp w))
    (hsp : ∀ (w : World) (H : Hp) (a : Addr) (ns : List Int), ns.length ≤ n → Only H → SqL (K w.params) H a (ns.map V.int) → sp w [.ref a] H (fun v _ => v = .bl true) fun _ _ _ => False)
    (hCX : ∀ (w : World) (H : Hp) (s : Shared) (e : Value) (s' : Shared), CX w [] H s (fun _ _ _ => False) e s' → False) :
    PySem.W.WalkO q loose XP YP l.row.toRowW d [] (fun f vs => PySem.call f vs) := by
  refine Att.attach_call hn hdf fun w s₀ s₁ mg mb fa o pm cd doc a vs ns G Y ho hd hcd hmg hobj hints hlen hg => ?_
  have KX := hY w _ Y
  obtain ⟨fd, hb, hF⟩ := F w mg fa _ KX G.T.g hmg
  exact law_call KX G.T.g G.T.b G.T.builtins G.T.nolimit hg hobj hints (Nat.le_trans hlen hn2) hr hF hb (fun H hO hS => hsp w H a ns hlen hO hS) fun H e s' => hCX w H s₁ e s'
end L2
namespace L2
open PySem PySem.Spec PyProof.Rows
def defArgs (s : Stmt) : Arguments := match s with
  | .FunctionDef _ a _ _ _ _ _ _ _ _ => a
  | _ => { posonlyargs := [], args := [], vararg := none, kwonlyargs := [], kw_defaults := [], kwarg := none, defaults := [] }
def defBody (s : Stmt) : List Stmt := match s with
  | .FunctionDef _ _ b _ _ _ _ _ _ _ => b
  | _ => []
def defScope (s : Stmt) : Scope := match s with
  | .FunctionDef _ _ _ _ _ _ sc _ _ _ => sc
  | _ => { kind := .function, names := [], isGenerator := false, isCoroutine := false }
abbrev CX0 : CXT := fun _ _ _ _ _ _ => False
abbrev E0 : XK := fun _ _ _ => False
theorem pass0 {X : Cx} : Passes CX0 X E0 := fun _ _ _ _ _ _ _ h => h.elim
structure Fun (K : PySem.W.Frag) (x qual : Str) (st : Stmt) (f : Addr) (fd : FuncData) : Prop where
  ex : ∃ (oc : Value) (od : Option Addr) (kV doc pm : Value) (an : Option Addr) (cdv ct : Value) (osl : Array (Option Value)),
    fd = PySem.W.fnOf x qual (defArgs st) (defBody st) (defScope st) .none kV doc pm an cdv ct ∧ K.lookup f = some ⟨oc, od, .func fd, osl⟩ ∧ PySem.W.codeIn K cdv qual = true
  kp : PySem.W.keepIn K (.ref f) = true
section
variable {P : Program} {w : World} {K : PySem.W.Frag} {mg : Str → Option Value} {base : Heap}
theorem Fun.ok {x qual : Str} {st : Stmt} {f : Addr} {fd : FuncData} {N ps : List Str} {k : Nat} {sp : Sp} (F : Fun K x qual st f fd) (S : FnScope N ps (defScope st)) (len : ∀ vs H Q E, sp vs H Q E → vs.length = ps.length)
    (hbody : ∀ (cdv : Value) (A : Around) (outer : List Env) (s : Shared) (H : Hp) (vs : List V) (Q : VK) (E : XK), Room k (A.deeper (envOfC qual (defScope st) s.heap.objs.size f cdv)) → sp vs H Q E →
      ∃ t, PSs (cxOf CX0 P w K mg base N qual (defScope st) f cdv A outer s H E).nox (defBody st) t ∧ t { nx := fun _ H' => Q .non H', rt := Q } (start N vs) H) : FnOk P w K mg base CX0 (k + 1) f fd ps sp := by
  obtain ⟨oc, od, kV, doc, pm, an, cdv, ct, osl, rfl, lk, hcd⟩ := F.ex
  refine fn_of lk hcd S len fun A outer s H vs Q E hr hsp => ?_
  obtain ⟨t, h, q⟩ := hbody cdv A outer s H vs Q E hr hsp
  exact ⟨t, h.nox, q⟩
theorem Fun.binds {x qual : Str} {st : Stmt} {f : Addr} {fd : FuncData} {ps : List Str} (F : Fun K x qual st f fd)
    (h : ∀ (kV doc pm : Value) (an : Option Addr) (cdv ct : Value) (us : List Value), us.length = ps.length → bindArgs (PySem.W.fnOf x qual (defArgs st) (defBody st) (defScope st) .none kV doc pm an cdv ct) ⟨us, []⟩ = pure (ps.zip us)) : Binds K fd ps [] := by
  obtain ⟨oc, od, kV, doc, pm, an, cdv, ct, osl, rfl, lk, hcd⟩ := F.ex
  exact .all (h kV doc pm an cdv ct)
theorem fun_mk {x qual : Str} {st : Stmt} {f : Addr} {oc : Value} {od an : Option Addr} {osl : Array (Option Value)} {kV doc pm cdv ct : Value} (l : K.lookup f = some ⟨oc, od, .func (PySem.W.fnOf x qual (defArgs st) (defBody st) (defScope st) .none kV doc pm an cdv ct), osl⟩)
    (c : PySem.W.codeIn K cdv qual = true) (k : PySem.W.keepIn K (.ref f) = true) : Fun K x qual st f (PySem.W.fnOf x qual (defArgs st) (defBody st) (defScope st) .none kV doc pm an cdv ct) := ⟨⟨oc, od, kV, doc, pm, an, cdv, ct, osl, rfl, l, c⟩, k⟩
end
theorem hu_of {A : Around} {k : Nat} (hr : Room k A) : A.units + 1 < cLine := Nat.lt_of_le_of_lt (Nat.add_le_add_left (by decide : 1 ≤ 64) _) hr.units
theorem small1000 {n : Nat} (h : n ≤ 1000) : n < sizeLine := Nat.lt_of_le_of_lt h (by decide)
section
variable {X : Cx}
theorem pv (i : Nat) {x : Str} {pos : Pos} (hN : X.N[i]? = some x := by rfl) (hv : Vis X.env.scope x := by first | exact Or.inl rfl | exact Or.inr (Or.inl rfl) | exact Or.inr (Or.inr rfl)) (hd : (x == ("__debug__" : Str)) = false := by decide)
    (hcd : (x == ("__classdict__" : Str)) = false := by decide) : PE X (.Name x pos) (tVar i) := pe_var hN hv hd hcd
end
theorem iteF {A B : Prop} (h : B) : if false = true then A else B := by
  rw [if_neg Bool.false_ne_true]
  exact h
theorem iteT {A B : Prop} (h : A) : if true = true then A else B := by
  rw [if_pos rfl]
  exact h
theorem ite2 {c A B : Prop} [Decidable c] (h1 : c → A) (h2 : ¬ c → B) : if c then A else B := by
  by_cases h : c
  · rw [if_pos h]
    exact h1 h
  · rw [if_neg h]
    exact h2 h
theorem iteNS {c A B : Prop} [Decidable c] (hc : c) (h : B) : if (!decide c) = true then A else B := by
  rw [decide_eq_true hc]
  exact iteF h
def Same (H H' : Hp) : Prop := ∀ b o, H b = some o → H' b = some o
theorem Same.refl (H : Hp) : Same H H := fun _ _ h => h
theorem Same.trans {H H1 H2 : Hp} (a : Same H H1) (b : Same H1 H2) : Same H H2 := fun c o h => b c o (a c o h)
theorem Same.free {H H' : Hp} (e : Same H H') {l : Addr} (h : H' l = Option.none) : H l = Option.none := by
  cases q : H l with
  | none => rfl
  | some o =>
    rw [e l o q] at h
    cases h
theorem Same.seq {K : PySem.W.Frag} {H H' : Hp} {a : Addr} {xs : List V} (e : Same H H') (h : SqL K H a xs) : SqL K H' a xs := by
  rcases h with (h | ⟨o, h⟩) | h
  · exact .inl (.inl (e _ _ h))
  · exact .inl (.inr ⟨o, e _ _ h⟩)
  · exact .inr h
section
variable {X : Cx}
end
section
variable {κ : Type} [DecidableEq κ]
end
end L2
set_option maxHeartbeats 8000000
namespace L2
open PySem PySem.Spec PyProof.Rows
def compCx (X : Cx) (N : List Str) (scope : Scope) (cl : List (Str × Addr)) (C : Addr) (s0 : Shared) (H0 : Hp) (ex : List Addr) : Cx :=
  { X with N := N, s₀ := s0, H₀ := H0, env := compEnvC scope cl C X.env, outer := X.stack, stack := X.stack, ex := ex, fn := fun _ => false, pn := [], xe := fun _ _ => False }
def compSt (nl : Nat) (fr : List Nat) (σ : St) : St := List.replicate nl none ++ fr.map fun j => (σ[j]?).join
def closOf (env : Env) : List (Str × NameKind) → List (Str × Addr) → List (Str × Addr)
  | [], cs => cs
  | (n, k) :: r, cs => closOf env r (if (k == NameKind.free) = true then (n, (env.cells.lookup n).getD 0) :: cs else cs)
theorem closOf_sub (env : Env) : ∀ (ns : List (Str × NameKind)) (cs : List (Str × Addr)), (∀ p ∈ ns, p.2 = .free → ∃ c, env.cells.lookup p.1 = some c) → (∀ y c, cs.lookup y = some c → env.cells.lookup y = some c) →
    ∀ y c, (closOf env ns cs).lookup y = some c → env.cells.lookup y = some c
  | [], cs, _, h, y, c, e => h y c e
  | (n, k) :: r, cs, hn, h, y, c, e => by
    unfold closOf at e
    refine closOf_sub env r _ (fun p hp => hn p (List.mem_cons_of_mem _ hp)) ?_ y c e
    intro z d ez
    split at ez
    · rename_i hk
      rw [List.lookup_cons] at ez
      cases hz : z == n with
      | true =>
        rw [hz] at ez
        have hzn : z = n := eq_of_beq hz
        subst hzn
        have hkf : k = .free := by simpa using hk
        obtain ⟨c', hc'⟩ := hn (z, k) List.mem_cons_self hkf
        have hc' : env.cells.lookup z = some c' := hc'
        rw [hc'] at ez
        rw [hc']
        simpa using ez
      | false =>
        rw [hz] at ez
        exact h z d ez
    · exact h z d ez
theorem closOf_keep (env : Env) : ∀ (ns : List (Str × NameKind)) (cs : List (Str × Addr)) (y : Str), (∃ c, cs.lookup y = some c) → ∃ c, (closOf env ns cs).lookup y = some c
  | [], cs, y, h => h
  | (n, k) :: r, cs, y, ⟨c, h⟩ => by
    unfold closOf
    refine closOf_keep env r _ y ?_
    split
    · rw [List.lookup_cons]
      cases hz : y == n with
      | true => exact ⟨_, rfl⟩
      | false => exact ⟨c, h⟩
    · exact ⟨c, h⟩
theorem closOf_has (env : Env) : ∀ (ns : List (Str × NameKind)) (cs : List (Str × Addr)) (p : Str × NameKind), p ∈ ns → p.2 = .free → ∃ c, (closOf env ns cs).lookup p.1 = some c
  | [], cs, p, hp, _ => by simp at hp
  | (n, k) :: r, cs, p, hp, hk => by
    unfold closOf
    rcases List.mem_cons.mp hp with e | hp
    · subst e
      have hk : k = .free := hk
      subst hk
      refine closOf_keep env r _ n ?_
      rw [if_pos (by rfl), List.lookup_cons]
      exact ⟨(List.lookup n env.cells).getD 0, by simp⟩
    · exact closOf_has env r _ p hp hk
theorem closure_loop (env : Env) : ∀ (ns : List (Str × NameKind)) (cs : List (Str × Addr)), (∀ p ∈ ns, p.2 = .free → ∃ c, env.cells.lookup p.1 = some c) →
    (forIn ns cs (fun (x : Str × NameKind) (r : List (Str × Addr)) => if (x.2 == NameKind.free) = true then (do let a ← cellOf env x.1; pure (ForInStep.yield ((x.1, a) :: r))) else pure (ForInStep.yield r)) : Sem (List (Str × Addr))) = pure (closOf env ns cs)
  | [], cs, _ => rfl
  | (n, k) :: r, cs, hn => by
    have ih := fun cs' => closure_loop env r cs' fun p hp => hn p (List.mem_cons_of_mem _ hp)
    rw [List.forIn_cons]
    unfold closOf
    by_cases hk : (k == NameKind.free) = true
    · obtain ⟨c, hc⟩ := hn (n, k) List.mem_cons_self (by simpa using hk)
      have hc : env.cells.lookup n = some c := hc
      rw [if_pos hk, if_pos hk]
      have e1 : cellOf env n = pure c := by unfold cellOf; rw [hc]
      rw [e1, hc]
      exact ih _
    · rw [if_neg hk, if_neg hk]
      exact ih _
theorem closureFor_eq {scope : Scope} {env : Env} (h : ∀ p ∈ scope.names, p.2 = .free → ∃ c, env.cells.lookup p.1 = some c) : closureFor scope env = pure (closOf env scope.names []) := by
  have e := closure_loop env scope.names [] h
  unfold closureFor
  show (forIn scope.names [] _ >>= _) = _
  have e2 : (forIn scope.names ([] : List (Str × Addr)) (fun (x : Str × NameKind) (r : List (Str × Addr)) => match x with | (name, kind) => (if (kind == NameKind.free) = true then (do let a ← cellOf env name; pure PUnit.unit; pure (ForInStep.yield ((name, a) :: r))) else (do pure PUnit.unit; pure (ForInStep.yield r)))) : Sem (List (Str × Addr))) = pure (closOf env scope.names []) := e
  first
    | exact (congrArg (fun z => z >>= fun cs => pure cs) e2)
    | (rw [show (forIn scope.names ([] : List (Str × Addr)) _ : Sem (List (Str × Addr))) = pure (closOf env scope.names []) from e]; rfl)
section
variable {X : Cx}
def PIfs (X : Cx) (ifs : List Expr) (t : TT) : Prop :=
  ∀ (pins : List (Addr × Obj)) (s : Shared) (σ : St) (H : Hp) (Q : Bool → Hp → Prop), Inv X pins σ H s → t σ H Q →
    wpAny (model X.prog X.w) X.A (forIn ifs true fun c r => if r = true then do let ok ← isTrue c X.env (eval c X.env); pure (ForInStep.yield ok) else pure (ForInStep.yield r)) (TP X pins σ Q) X.xe s
def tYes : TT := fun _ H Q => Q true H
theorem pifs_nil : PIfs X [] tYes := fun pins s σ H Q I h => by
  rw [List.forIn_nil]
  exact wpAny_pure ⟨H, I, h⟩
theorem pifs_one {c : Expr} {t : TT} (h : PT X c t) : PIfs X [c] t := by
  intro pins s σ H Q I hw
  rw [List.forIn_cons, if_pos rfl]
  refine wpAny_bind (wpAny_bind (thn (h pins s σ H Q I hw) fun b s1 q => wpAny_pure ?_))
  show wpAny _ _ (forIn [] b _) _ _ s1
  rw [List.forIn_nil]
  exact wpAny_pure q
theorem compLoop_any {prog : Program} {w : World} {A : Around} {R : Result → Shared → Prop} {s : Shared} {elt target iter : Expr} {ifs : List Expr} {scope : Scope} {pos : Pos} {it acc : Value} {env : Env} (I : Nat → Shared → Prop)
    (turn : ∀ n s, I n s → wpAny (model prog w) A (pyNext it) (fun r s1 => match r with
      | none => R (.ok .next) s1
      | some v => wpAny (model prog w) A (letOwnedTupleGo target it v) (fun _ s2 => wpAny (model prog w) A (assign target env v) (fun _ s3 =>
          wpAny (model prog w) A (forIn ifs true fun c r => if r = true then do let ok ← isTrue c env (eval c env); pure (ForInStep.yield ok) else pure (ForInStep.yield r)) (fun ok s4 =>
            if ok = true then wpAny (model prog w) A (eval elt env) (fun x s5 =>
              wpAny (model prog w) A (call (.builtin "list.append") [acc, x]) (fun _ s6 => ∃ m, m < n ∧ I m s6) (fun _ _ => False) s5) (fun _ _ => False) s4
            else ∃ m, m < n ∧ I m s4) (fun _ _ => False) s3) (fun _ _ => False) s2) (fun _ _ => False) s1) (fun _ _ => False) s)
    (n : Nat) (h : I n s) :
    codeAny (model prog w) A (.compLoop (.ListComp elt [⟨target, iter, ifs, 0⟩] scope pos) 0 it acc env) R s := by
  refine codeAny_loop rfl I (fun n s hI => ?_) n h
  show wpAny _ A ((compTurn (.ListComp elt [⟨target, iter, ifs, 0⟩] scope pos) 0 it acc env).onRaise (fun x => do noteFrame x env; theTreesLotGoes x)) _ _ s
  refine wpAny_noted ?_
  rw [compTurn_list]
  refine wpAny_bind (wpAny_standAt (wpAny_bind (wpAny_mono (turn n s hI) (fun r s1 h1 => ?_) fun _ _ f => f.elim)))
  cases r with
  | none => exact wpAny_pure h1
  | some v =>
    refine wpAny_bind (wpAny_mono h1 (fun _ s2 h2 => ?_) fun _ _ f => f.elim)
    refine wpAny_bind (wpAny_mono h2 (fun _ s3 h3 => wpAny_bind (wpAny_mono h3 (fun ok s4 h4 => ?_) fun _ _ f => f.elim)) fun _ _ f => f.elim)
    cases ok with
    | false => exact wpAny_pure ⟨rfl, h4⟩
    | true =>
      exact wpAny_bind (wpAny_bind (wpAny_mono h4 (fun x s5 h5 => wpAny_bind (wpAny_mono h5 (fun _ s6 h6 => wpAny_pure (wpAny_pure ⟨rfl, h6⟩)) fun _ _ f => f.elim)) fun _ _ f => f.elim))
def CompW (J : It) (g : TG) (tc : TT) (te : TE) (Q : VK) (σ0 : St) (H0 : Hp) : Prop := ∃ W : Nat → Nat → List V → St → Hp → Prop, (∃ m, W 0 m [] σ0 H0) ∧ ∀ i m ys σ' H', W i m ys σ' H' →
   (J.stop i H' ∧ ∀ D, H' D = none → Q (.ref D) (upd H' D (.lst ys))) ∨
   (J.go i H' ∧ ∃ N : List V → St → Hp → Prop, (∀ ys' σ2 H2, N ys' σ2 H2 → ∃ m', m' < m ∧ W (i + 1) m' ys' σ2 H2) ∧ ∀ x H2, J.yld i H' x H2 → g x σ' H2 fun σ2 H3 => tc σ2 H3 fun b H4 =>
     if b = true then te σ2 H4 fun y H5 => ys.length < sizeLine ∧ N (ys ++ [y]) σ2 H5 else N ys σ2 H4)
def tComp (nl : Nat) (fr : List Nat) (wi : TI) (g : TG) (tc : TT) (te : TE) : TE := fun σ H Q => wi σ H fun J H1 => CompW J g tc te Q (compSt nl fr σ) H1
structure CompOk (X : Cx) (N : List Str) (nl : Nat) (fr : List Nat) (scope : Scope) : Prop where
  cell : ∀ y ∈ scope.names, y.2 ≠ .cell
  kind : scope.kind = .function
  names : ∀ y ∈ scope.names, y.2 = .local → scope.names.lookup y.1 = some .local
  free : ∀ p ∈ scope.names, p.2 = .free → X.env.kindOf p.1 = some .cell ∨ X.env.kindOf p.1 = some .free
  len : N.length = nl + fr.length
  fr : ∀ (k j : Nat), fr[k]? = some j → ∃ y, N[nl + k]? = some y ∧ X.N[j]? = some y ∧ Vis X.env.scope y ∧ scope.names.lookup y = some .free
theorem lookup_relabel {env : Env} : ∀ {names : List (Str × NameKind)} {x : Str} {k : NameKind}, (names.map fun (n, k) => if (k == NameKind.free && env.scope.kind == .function && env.kindOf n == some .cell) then (n, NameKind.cell) else (n, k)).lookup x = some k →
    k = .cell ∨ k = .free → (∀ y ∈ names, y.2 ≠ .cell) → ∃ p ∈ names, p.1 = x ∧ p.2 = .free
  | [], _, _, h, _, _ => by simp at h
  | (n, kn) :: r, x, k, h, hk, hc => by
    have ih := @lookup_relabel env r x k
    rw [List.map_cons] at h
    have hcn : kn ≠ .cell := hc (n, kn) List.mem_cons_self
    have hr : ∀ y ∈ r, y.2 ≠ .cell := fun y hy => hc y (List.mem_cons_of_mem _ hy)
    cases hx : x == n with
    | true =>
      have hxn : x = n := eq_of_beq hx
      by_cases hcc : (kn == NameKind.free && env.scope.kind == .function && env.kindOf n == some .cell) = true
      · refine ⟨(n, kn), List.mem_cons_self, hxn.symm, ?_⟩
        simp only [Bool.and_eq_true] at hcc
        simpa using hcc.1.1
      · dsimp only at h
        rw [if_neg hcc, List.lookup_cons, hx] at h
        have hkk : kn = k := Option.some.inj h
        subst hkk
        rcases hk with z | z
        · exact absurd z hcn
        · exact ⟨(n, kn), List.mem_cons_self, hxn.symm, z⟩
    | false =>
      by_cases hcc : (kn == NameKind.free && env.scope.kind == .function && env.kindOf n == some .cell) = true
      · dsimp only at h
        rw [if_pos hcc, List.lookup_cons, hx] at h
        obtain ⟨p, hp, q⟩ := ih h hk hr
        exact ⟨p, List.mem_cons_of_mem _ hp, q⟩
      · dsimp only at h
        rw [if_neg hcc, List.lookup_cons, hx] at h
        obtain ⟨p, hp, q⟩ := ih h hk hr
        exact ⟨p, List.mem_cons_of_mem _ hp, q⟩
theorem lookup_relabel_free {env : Env} : ∀ {names : List (Str × NameKind)} {x : Str}, names.lookup x = some .free →
    (names.map fun (n, k) => if (k == NameKind.free && env.scope.kind == .function && env.kindOf n == some .cell) then (n, NameKind.cell) else (n, k)).lookup x = some .cell ∨
    (names.map fun (n, k) => if (k == NameKind.free && env.scope.kind == .function && env.kindOf n == some .cell) then (n, NameKind.cell) else (n, k)).lookup x = some .free
  | [], _, h => by simp at h
  | (n, kn) :: r, x, h => by
    have ih := @lookup_relabel_free env r x
    rw [List.map_cons]
    dsimp only
    cases hx : x == n with
    | true =>
      rw [List.lookup_cons, hx] at h
      have hkn : kn = .free := Option.some.inj h
      by_cases hcc : (kn == NameKind.free && env.scope.kind == .function && env.kindOf n == some .cell) = true
      · rw [if_pos hcc, List.lookup_cons, hx]; exact .inl rfl
      · rw [if_neg hcc, List.lookup_cons, hx]; exact .inr (congrArg some hkn)
    | false =>
      rw [List.lookup_cons, hx] at h
      by_cases hcc : (kn == NameKind.free && env.scope.kind == .function && env.kindOf n == some .cell) = true
      · rw [if_pos hcc, List.lookup_cons, hx]; exact ih h
      · rw [if_neg hcc, List.lookup_cons, hx]; exact ih h
theorem HOk.track {P : Program} {w : World} {H : Hp} {h : Heap} {a : Addr} {o : HO} (x : HOk P w H h) (hn : H a = none) (new : ObjOk P w (upd H a o) h a o) : HOk P w (upd H a o) h := fun b u e => by
  by_cases hb : b = a
  · subst hb; rw [upd_same] at e; cases e; exact new
  · rw [upd_ne hb] at e
    exact (x b u e).stay (fun c v _ q => q) (fun c q => by rw [upd_ne (ne_of_none q hn)]; exact q) fun c xs q => by rw [upd_ne (ne_of_none q hn)]; exact q
theorem comp_core {elt tg iter : Expr} {ifs : List Expr} {scope : Scope} {pos : Pos} {wi : TI} {g : TG} {tc : TT} {te : TE} {N : List Str} {nl : Nat} {fr : List Nat}
    (hc : X.calm = true) (hi : PI X tg iter wi) (hg : ∀ cl C s0 H0 ex, PG (compCx X N scope cl C s0 H0 ex) tg g) (ht : ∀ cl C s0 H0 ex, PIfs (compCx X N scope cl C s0 H0 ex) ifs tc)
    (he : ∀ cl C s0 H0 ex, PE (compCx X N scope cl C s0 H0 ex) elt te) (ok : CompOk X N nl fr scope)
    {RR : Value → Addr → Result → Shared → Prop} {pins : List (Addr × Obj)} {s : Shared} {σ : St} {H : Hp} {Q : VK} (I : Inv X pins σ H s) (h : tComp nl fr wi g tc te σ H Q)
    (hRR : ∀ D C s' H', Inv X pins σ H' s' → Q (.ref D) H' → FpOk X pins H' C → (∃ m, s'.heap.Ns C m) → RR (.ref D) C (.ok .next) s') :
    wpAny (model X.prog X.w) X.A (eval iter X.env) (fun x s1 => wpAny (model X.prog X.w) X.A (pyIter x) (fun it s2 => wpAny (model X.prog X.w) X.A (newList []) (fun acc s3 =>
      wpAny (model X.prog X.w) X.A (newFunctionEnv scope X.env.globals (closOf X.env scope.names []) [] X.env.qual none .none (some X.env)) (fun cenv s4 =>
        codeAny (model X.prog X.w) X.A (.compStart (.ListComp elt [⟨tg, iter, ifs, 0⟩] scope pos) 0 it acc { cenv with scope := relabel scope X.env }) (RR acc cenv.locals) s4) X.xe s3) X.xe s2) X.xe s1) X.xe s := by
  refine thn (hi pins s σ H _ I h) fun v s1 h1 => thn h1 fun itv s2 h2 => ?_
  obtain ⟨it, fp, tn, J, H2, rfl, I2, T, st2, f2, W, ⟨m0, w0⟩, turn⟩ := h2
  refine wpAny_newObj_type (wpAny_newFunctionEnv ok.cell (by intro y hy; simp at hy) (fun h1 hns1 hsb1 => ?_) ok.kind)
  dsimp only at hns1 hsb1 ⊢
  generalize hHH : s2.heap.push { cls := .type "list", dict := none, data := .seq ([] : List Value).toArray } = HH at hns1 hsb1 ⊢
  have hC : HH.objs.size = s2.heap.objs.size + 1 := by rw [← hHH, Heap.size_push]
  have hDC : s2.heap.objs.size ≠ HH.objs.size := by rw [hC]; exact Nat.ne_of_lt (Nat.lt_succ_self _)
  have hCle : s2.heap.objs.size ≤ HH.objs.size := by rw [hC]; exact Nat.le_succ _
  have below : ∀ b, b < s2.heap.objs.size → b ≠ HH.objs.size ∧ b ≠ s2.heap.objs.size := fun b hb => ⟨by rw [hC]; exact Nat.ne_of_lt (Nat.lt_succ_of_lt hb), Nat.ne_of_lt hb⟩
  have old : ∀ b o, s2.heap.get? b = some o → h1.get? b = some o := fun b o e => hsb1.extBut b o (below b (Heap.lt_size e)).1 (Heap.get?_push_of_some _ (hHH ▸ Heap.get?_push_of_some _ e))
  have hacc : h1.get? s2.heap.objs.size = some { cls := .type "list", data := .seq ([] : List Value).toArray } := hsb1.extBut _ _ hDC (Heap.get?_push_of_some _ (hHH ▸ Heap.get?_push_size _ rfl))
  have fplt : ∀ b ∈ fp, b < s2.heap.objs.size := fun b hb => by obtain ⟨o, e, _⟩ := T.obj 0 _ st2 b hb; exact Heap.lt_size e
  generalize hXd : compCx X N scope (closOf X.env scope.names []) HH.objs.size s2 H2 fp = X'
  have hfreeC : ∀ p ∈ scope.names, p.2 = .free → ∃ c, X.env.cells.lookup p.1 = some c := fun p hp hf => I.ok.has p.1 (ok.free p hp hf)
  have cellsSub : ∀ y c, (closOf X.env scope.names []).lookup y = some c → X.env.cells.lookup y = some c := closOf_sub X.env scope.names [] hfreeC (fun y c e => by simp at e)
  have cellLt : ∀ y c, X.env.cells.lookup y = some c → c < s2.heap.objs.size := fun y c e => by obtain ⟨v, z⟩ := I2.cell y c e; exact z.lt
  have ok' : X'.Ok := by
    rw [← hXd]
    refine ⟨I.ok.mod, ?_, I.ok.glob, I.ok.blt, hCle, fun x y c e1 e2 => I.ok.inj x y c (cellsSub x c e1) (cellsSub y c e2), fun x hx => ?_, fun x c hf => (by cases hf), I.ok.hd, I.ok.frames, .inl rfl,
      fun b hb => ⟨(below b (fplt b hb)).1, fun x c e => (f2 b hb).2.2.2.2.1 x c (cellsSub x c e)⟩, I2.bs, Nat.le_trans I.ok.bsz I2.sz, fun b o e hb => ?_, fun b hb hfs => ?_, I2.stack, I2.stkFree⟩
    · show (relabel scope X.env).kind = .function
      exact ok.kind
    · have hx' : ∃ p ∈ scope.names, p.1 = x ∧ p.2 = .free := by
        rcases hx with z | z
        · exact lookup_relabel z (.inl rfl) ok.cell
        · exact lookup_relabel z (.inr rfl) ok.cell
      obtain ⟨p, hp, rfl, hpf⟩ := hx'
      exact closOf_has X.env scope.names [] p hp hpf
    · rcases (f2 b hb).2.2.2.1 with z | z
      · exact I.ok.noex b o e z
      · exact absurd (Nat.lt_of_lt_of_le (Heap.lt_size e) (Nat.le_trans I.ok.bsz z)) (Nat.lt_irrefl _)
    · rcases List.mem_cons.mp (I2.stkSub b hfs) with z | z
      · exact (f2 b hb).2.1 z
      · exact (f2 b hb).2.2.1 z
  have hX'd : X'.env.locals = HH.objs.size := by rw [← hXd]; rfl
  have hX'c : X'.env.cells = closOf X.env scope.names [] := by rw [← hXd]; rfl
  have hX'pn : X'.pn = [] := by rw [← hXd]; rfl
  have hX'ex : X'.ex = fp := by rw [← hXd]; rfl
  have hX's0 : X'.s₀ = s2 := by rw [← hXd]; rfl
  have hX'H0 : X'.H₀ = H2 := by rw [← hXd]; rfl
  have hX'fs : X'.fs = frs X.stack := by rw [← hXd]; rfl
  have hX'xe : X'.xe = fun _ _ => False := by rw [← hXd]; rfl
  have hX'A : X'.A = X.A := by rw [← hXd]; rfl
  have hX'P : X'.prog = X.prog := by rw [← hXd]; rfl
  have hX'w : X'.w = X.w := by rw [← hXd]; rfl
  have hX'K : X'.K = X.K := by rw [← hXd]; rfl
  have hX'calm : X'.calm = true := by rw [← hXd]; exact hc
  have hX'env : X'.env = compEnvC scope (closOf X.env scope.names []) HH.objs.size X.env := by rw [← hXd]; rfl
  have I' : Inv X' [] (compSt nl fr σ) H2 { s2 with heap := h1, toks := s2.toks + ([] : List (Str × Value)).length } := by
    refine ⟨ok', by rw [hX's0], I2.bare, ?_, ?_, fun x c e => ?_, ?_, fun x c e => ?_, fun p hp => ?_, ?_, ?_⟩
    · rw [hX'fs, hX'ex, hX'H0, hX's0]; exact Un.kept old
    · obtain ⟨m, hn, hl⟩ := I2.loc
      rw [hX'd]
      refine ⟨_, hns1, fun i x v e1 e2 e3 => ?_⟩
      have hN' : N[i]? = some x := by rw [← hXd] at e1; exact e1
      unfold compSt at e2
      have hi : ¬ i < nl := fun hlt => by
        rw [List.getElem?_append_left (by simpa using hlt), List.getElem?_replicate, if_pos hlt] at e2
        cases e2
      rw [List.getElem?_append_right (by simpa using hi), List.length_replicate, List.getElem?_map] at e2
      cases ej : fr[i - nl]? with
      | none => rw [ej] at e2; cases e2
      | some j =>
        rw [ej] at e2
        obtain ⟨y, y1, y2, y3, y4⟩ := ok.fr (i - nl) j ej
        have hii : nl + (i - nl) = i := by omega
        rw [hii, hN'] at y1
        have hxy : x = y := Option.some.inj y1
        subst hxy
        have e2' : (σ[j]?).join = some v := Option.some.inj e2
        have e2'' : σ[j]? = some (some v) := by
          cases hσ : σ[j]? with
          | none => rw [hσ] at e2'; cases e2'
          | some z => rw [hσ] at e2'; exact congrArg some e2'
        obtain ⟨u, r, l⟩ := hl j x v y2 e2'' y3
        have hkX := ok.free (x, .free) (PySem.mem_of_lookup y4) rfl
        refine ⟨u, r, .inr ⟨?_, ?_⟩⟩
        · rw [hX'env]
          rcases lookup_relabel_free (env := X.env) y4 with z | z
          · exact .inl z
          · exact .inr z
        · rcases l with ⟨k1, _⟩ | ⟨_, c, ec, hcell⟩
          · rcases hkX with z | z
            · rw [z] at k1; cases k1
            · rw [z] at k1; cases k1
          · obtain ⟨c', ec'⟩ := closOf_has X.env scope.names [] (x, .free) (PySem.mem_of_lookup y4) rfl
            have : c' = c := by
              have q := cellsSub x c' ec'
              rw [ec] at q
              exact (Option.some.inj q).symm
            subst this
            refine ⟨c', by rw [hX'c]; exact ec', ?_⟩
            obtain ⟨oc, ho, hd⟩ := hcell
            exact ⟨oc, old _ _ ho, hd⟩
    · rw [hX'c] at e
      obtain ⟨v, oc, ho, hd⟩ := I2.cell x c (cellsSub x c e)
      exact ⟨v, oc, old _ _ ho, hd⟩
    · rw [hX'd]; exact I2.hok.fresh hCle
    · rw [hX'c] at e
      exact I2.freeC x c (cellsSub x c e)
    · rw [hX'pn] at hp; simp at hp
    · rw [hX'P, hX'w]; exact I2.hok.kept old
    · unfold compSt
      have : X'.N = N := by rw [← hXd]; rfl
      rw [this, ok.len, List.length_append, List.length_replicate, List.length_map]
  have Dn : ∀ {H' : Hp} {pins'} {s' : Shared} {σ'}, Inv X' pins' σ' H' s' → H' s2.heap.objs.size = none → ∀ o, s'.heap.get? s2.heap.objs.size = some o → (∀ v, o.data ≠ .cell v) → Inv X' [(s2.heap.objs.size, o)] σ' H' s' := fun {H' pins' s' σ'} I3 hD o ho hnc =>
    I3.pins_of fun p hp => by
      have e : p = (s2.heap.objs.size, o) := by simpa using hp
      subst e
      refine ⟨ho, hD, by rw [hX'd]; exact hDC, ?_, hnc⟩
      rw [hX'fs]
      intro hb
      rcases List.mem_cons.mp (I2.stkSub _ hb) with z | z
      · exact absurd (z ▸ I2.lt) (Nat.lt_irrefl _)
      · exact I2.nofs (Nat.le_refl _) z
  have loop : ∀ s₃ : Shared, s₃ = { s2 with heap := h1, toks := s2.toks + ([] : List (Str × Value)).length } →
      codeAny (model X.prog X.w) X.A (.compLoop (.ListComp elt [⟨tg, iter, ifs, 0⟩] scope pos) 0 (.ref it) (.ref s2.heap.objs.size) (compEnvC scope (closOf X.env scope.names []) HH.objs.size X.env)) (RR (.ref s2.heap.objs.size) HH.objs.size) s₃ := by
    rintro s₃ rfl
    refine compLoop_any (fun n s' => ∃ (i : Nat) (σ' : St) (H' : Hp) (ys : List V) (its : List Value) (k : Nat), Inv X' [(s2.heap.objs.size, { cls := .type "list", data := .seq its.toArray k })] σ' H' s' ∧ Vals ys its ∧ ys.length ≤ sizeLine ∧ tn i s'.heap ∧ (∀ b ∈ fp, H' b = none) ∧ W i n ys σ' H')
      ?_ m0 ⟨0, _, H2, [], [], 0, Dn I' (I2.hok.fresh (Nat.le_refl _)) _ hacc (fun v z => by cases z), .nil, Nat.zero_le _, T.keep 0 _ _ st2 fun b hb o e => old b o e, fun b hb => (f2 b hb).1, w0⟩
    rintro n s3 ⟨i, σ3, H3, ys, its, k, I3, rv, hyl, st3, fr3, w3⟩
    have pinD := I3.pin (s2.heap.objs.size, { cls := .type "list", data := .seq its.toArray k }) (by rw [hX'pn]; exact List.mem_append_right _ List.mem_cons_self)
    have stat : ∀ {o : Obj} {H' : Hp}, (∀ b ∈ fp, H' b = none) → ∀ b ∈ fp, FpOk X' [(s2.heap.objs.size, o)] H' b := fun {o H'} hn b hb => by
      refine ⟨hn b hb, by rw [hX'd]; exact (below b (fplt b hb)).1, fun z => ok'.exfs b (by rw [hX'ex]; exact hb) z, .inl (by rw [hX'ex]; exact hb), fun x c e => by rw [hX'c] at e; exact (f2 b hb).2.2.2.2.1 x c (cellsSub x c e), fun p hp => ?_⟩
      rw [hX'pn] at hp
      have e : p = (s2.heap.objs.size, o) := by simpa using hp
      subst e
      exact fun z => (below b (fplt b hb)).2 z.symm
    rcases turn i n ys σ3 H3 w3 with ⟨stop, qn⟩ | ⟨go, Nx, hNx, step⟩
    · have dn := T.done X' hX'P hX'w hX'K hX'calm i _ s3 σ3 H3 (fun _ _ => False) I3 (stat fr3) st3 stop
      rw [hX'A] at dn
      refine thn dn fun r s4 ⟨hr, I4⟩ => ?_
      subst hr
      have pinE := I4.pin (s2.heap.objs.size, { cls := .type "list", data := .seq its.toArray k }) (by rw [hX'pn]; exact List.mem_append_right _ List.mem_cons_self)
      have ub : Un (frs X.stack) fp H2 H3 s2.heap s4.heap := by
        have := I4.base
        rw [hX'fs, hX'ex, hX'H0, hX's0] at this
        exact this
      have hok4 : HOk X.prog X.w H3 s4.heap := by have := I4.hok; rw [hX'P, hX'w] at this; exact this
      have nD : ∀ b u, H3 b = some u → b ≠ s2.heap.objs.size := fun b u e z => by rw [z, pinE.2.1] at e; cases e
      have u2 : Un (frs X.stack) fp H2 (upd H3 s2.heap.objs.size (.lst ys)) s2.heap s4.heap :=
        ⟨ub.keep, ub.slot, fun b o e n' hx => by rw [upd_ne (Nat.ne_of_lt (Heap.lt_size e))]; exact ub.free b o e n' hx, ub.there,
          fun b xs e => by have := ub.tups b xs e; rw [upd_ne (nD b _ this)]; exact this, fun b o u e => by have := ub.frzs b o u e; rw [upd_ne (nD b _ this)]; exact this,
          fun b ps e => by obtain ⟨more, z⟩ := ub.tbls b ps e; exact ⟨more, by rw [upd_ne (nD b _ z)]; exact z⟩⟩
      have I5 : Inv X pins σ (upd H3 s2.heap.objs.size (.lst ys)) s4 := by
        refine I2.call' (by rw [I4.os, hX's0]) u2 ?_ I4.bare fun b hb => ⟨(f2 b hb).2.2.2.1, (f2 b hb).2.1, (f2 b hb).2.2.2.2.1, (f2 b hb).2.2.2.2.2⟩
        exact HOk.track hok4 pinE.2.1 ⟨hyl, its, k, rv, pinE.1⟩
      refine hRR _ _ s4 _ I5 (qn _ pinE.2.1) (I2.fpOk hCle ?_) ?_
      · rw [upd_ne (Ne.symm hDC)]
        have := I4.free
        rw [hX'd] at this
        exact this
      · obtain ⟨m, hn, _⟩ := I4.loc
        rw [hX'd] at hn
        exact ⟨m, hn⟩
    · have im := T.item X' hX'P hX'w hX'K hX'calm i _ s3 σ3 H3 (fun _ _ => False) I3 (stat fr3) st3 go
      rw [hX'A] at im
      refine thn im fun r s4 ⟨u, hr, h4⟩ => ?_
      subst hr
      refine thn h4 fun _ s5 ⟨x, H5, I5, r5, y5, st5, fr5⟩ => ?_
      have I5' := I5.pinned (stat fr5) (T.obj _ _ st5)
      have gg := hg (closOf X.env scope.names []) HH.objs.size s2 H2 fp
      rw [hXd] at gg
      have gg := gg _ s5 σ3 H5 x u _ I5' r5 (step x H5 y5)
      rw [hX'A, hX'P, hX'w, hX'xe, hX'env] at gg
      refine thn gg fun _ s6 ⟨σ6, H6, I6, q6⟩ => ?_
      have tt := ht (closOf X.env scope.names []) HH.objs.size s2 H2 fp
      rw [hXd] at tt
      have tt := tt _ s6 σ6 H6 _ I6 q6
      rw [hX'A, hX'P, hX'w, hX'xe, hX'env] at tt
      refine thn tt fun ok7 s7 ⟨H7, I7, q7⟩ => ?_
      have again : ∀ {s8 : Shared} {σ8 : St} {H8 : Hp} {ys8 : List V} {its8 : List Value} {k8 : Nat}, Inv X' ([(s2.heap.objs.size, { cls := .type "list", data := .seq its8.toArray k8 })] ++ pinsAt fp s5.heap) σ8 H8 s8 → Vals ys8 its8 → ys8.length ≤ sizeLine → Nx ys8 σ8 H8 →
          ∃ m, m < n ∧ ∃ (i : Nat) (σ' : St) (H' : Hp) (ys : List V) (its : List Value) (k : Nat), Inv X' [(s2.heap.objs.size, { cls := .type "list", data := .seq its.toArray k })] σ' H' s8 ∧ Vals ys its ∧ ys.length ≤ sizeLine ∧ tn i s8.heap ∧ (∀ b ∈ fp, H' b = none) ∧ W i m ys σ' H' :=
        fun {s8 σ8 H8 ys8 its8 k8} I8 rv8 hl8 n8 => by
          obtain ⟨m', hm, w8⟩ := hNx ys8 σ8 H8 n8
          refine ⟨m', hm, i + 1, σ8, H8, ys8, its8, k8, I8.unpinned, rv8, hl8, T.keep _ _ _ st5 fun b hb o e => (I8.pin (b, o) (List.mem_append_right _ (List.mem_append_right _ (mem_pinsAt hb e)))).1, fun b hb => ?_, w8⟩
          obtain ⟨o, e, d⟩ := T.obj _ _ st5 b hb
          exact (I8.pin (b, o) (List.mem_append_right _ (List.mem_append_right _ (mem_pinsAt hb e)))).2.1
      cases ok7 with
      | false =>
        rw [if_neg Bool.false_ne_true] at q7 ⊢
        exact again I7 rv hyl q7
      | true =>
        rw [if_pos rfl] at q7 ⊢
        have ee := he (closOf X.env scope.names []) HH.objs.size s2 H2 fp
        rw [hXd] at ee
        have ee := ee _ s7 σ6 H7 _ I7 q7
        rw [hX'A, hX'P, hX'w, hX'xe, hX'env] at ee
        refine thn ee fun yv s8 ⟨y, H8, I8, r8, hyl8, q8⟩ => ?_
        have pin8 := I8.pin (s2.heap.objs.size, { cls := .type "list", data := .seq its.toArray k }) (List.mem_append_right _ (List.mem_append_left _ List.mem_cons_self))
        refine wpAny_list_append_plain (items := its.toArray) ⟨k, pin8.1⟩ (fun h9 hp9 hs9 => ?_) (by rw [List.size_toArray, ← rv.length]; exact hyl)
        obtain ⟨k9, e9⟩ := hp9
        have I9 : Inv X' (pinsAt fp s5.heap) σ6 H8 s8 := I8.pins_of fun p hp => I8.pin p (List.mem_append_right _ (List.mem_append_right _ hp))
        have I9' : Inv X' (pinsAt fp s5.heap) σ6 H8 { s8 with heap := h9, toks := s8.toks } := by
          refine I9.turned (t' := s8.toks) (it := s2.heap.objs.size) (fun b o hb e => hs9.extBut b o hb e) pin8.2.1 (by rw [hX'd]; exact hDC) (.inr (by rw [hX's0]; exact Nat.le_refl _)) (fun x c e z => ?_) fun p hp z => ?_
          · rw [hX'c] at e
            exact absurd (z ▸ cellLt x c (cellsSub x c e)) (Nat.lt_irrefl _)
          · rw [hX'pn] at hp
            obtain ⟨hb, _⟩ := of_pinsAt (by simpa using hp)
            exact absurd (z ▸ fplt _ hb) (Nat.lt_irrefl _)
        have e9' : h9.get? s2.heap.objs.size = some { cls := .type "list", data := .seq (its ++ [yv]).toArray k9 } := by rw [e9]; simp
        refine again (ys8 := ys ++ [y]) (its8 := its ++ [yv]) (k8 := k9) ?_ (Vals.append rv (.cons r8 .nil)) (by rw [List.length_append]; exact hyl8) q8
        refine I9'.pins_of fun p hp => ?_
        rcases List.mem_append.mp hp with z | z
        · have e : p = (s2.heap.objs.size, { cls := .type "list", data := .seq (its ++ [yv]).toArray k9 }) := by simpa using z
          subst e
          exact ⟨e9', pin8.2.1, pin8.2.2.1, pin8.2.2.2.1, fun v z => by cases z⟩
        · exact I9'.pin p (List.mem_append_right _ z)
  exact codeAny_compStart_list (loop _ rfl) (T.self X.A 0 _ _ _ (T.keep 0 _ _ st2 fun b hb o e => old b o e) (loop _ rfl))
end
end L2
namespace L2
open PySem PySem.Spec PyProof.Rows
section
variable {X : Cx}
theorem pe_comp {elt tg iter : Expr} {ifs : List Expr} {scope : Scope} {pos : Pos} {wi : TI} {g : TG} {tc : TT} {te : TE} {N : List Str} {nl : Nat} {fr : List Nat}
    (hc : X.calm = true) (ok : CompOk X N nl fr scope) (hi : PI X tg iter wi) (hg : ∀ cl C s0 H0 ex, PG (compCx X N scope cl C s0 H0 ex) tg g) (ht : ∀ cl C s0 H0 ex, PIfs (compCx X N scope cl C s0 H0 ex) ifs tc)
    (he : ∀ cl C s0 H0 ex, PE (compCx X N scope cl C s0 H0 ex) elt te) (hs : ∀ x, foldedSetIterable iter X.env x = pure x := by intro _; rfl) :
    PE X (.ListComp elt [⟨tg, iter, ifs, 0⟩] scope pos) (tComp nl fr wi g tc te) := by
  intro pins s σ H Q I h
  have hclos : closureFor scope X.env = pure (closOf X.env scope.names []) := closureFor_eq fun p hp hf => I.ok.has p.1 (ok.free p hp hf)
  rw [eval_ListComp]
  refine wpAny_comprehension_free (use := none) rfl hs hclos ok.kind ok.names (comp_core (RR := fun acc C => compPost (model X.prog X.w) X.A X.xe none (EP X pins σ Q) acc C) hc hi hg ht he ok I h ?_)
  intro D C s' H' I' q f ⟨m, hn⟩
  exact ⟨m, hn, fun h' hs' => ⟨.ref D, H', I'.turned (t' := s'.toks) (fun b o hb e => hs'.extBut b o hb e) f.1 f.2.1 f.2.2.2.1 f.2.2.2.2.1 f.2.2.2.2.2, rfl, q⟩⟩
theorem comp_list {K : PySem.W.Frag} {a : Addr} {xs : List V} {g : TG} {tc : TT} {te : TE} {σ0 : St} {H : Hp} {Q : VK} (Pv : Nat → List V → St → Hp → Prop) (h0 : Pv 0 [] σ0 H) (hl : ∀ i ys σ H, i ≤ xs.length → Pv i ys σ H → SqL K H a xs)
    (hs : ∀ i x ys σ H, xs[i]? = some x → Pv i ys σ H → g x σ H fun σ2 H2 => tc σ2 H2 fun b H4 => if b = true then te σ2 H4 fun y H5 => ys.length < sizeLine ∧ Pv (i + 1) (ys ++ [y]) σ2 H5 else Pv (i + 1) ys σ2 H4)
    (hd : ∀ ys σ H, Pv xs.length ys σ H → ∀ D, H D = none → Q (.ref D) (upd H D (.lst ys))) :
    CompW (Itl K a) g tc te Q σ0 H := by
  refine ⟨fun i m ys σ H => m = xs.length - i ∧ i ≤ xs.length ∧ Pv i ys σ H, ⟨xs.length, by simp, Nat.zero_le _, h0⟩, ?_⟩
  rintro i m ys σ H ⟨rfl, hi, p⟩
  have q := hl i ys σ H hi p
  by_cases hlt : i < xs.length
  · refine .inr ⟨⟨xs, xs[i], q, by simp [hlt]⟩, Pv (i + 1), fun ys' σ' H' p' => ⟨xs.length - (i + 1), by omega, rfl, hlt, p'⟩, fun x H' y => ?_⟩
    obtain ⟨e, y⟩ := y
    subst e
    exact hs i x ys σ _ (y xs q) p
  · have e : i = xs.length := by omega
    subst e
    exact .inl ⟨⟨xs, q, Nat.le_refl _⟩, hd ys σ H p⟩
theorem comp_range {lo : Int} {n : Nat} {g : TG} {tc : TT} {te : TE} {σ0 : St} {H : Hp} {Q : VK} (Pv : Nat → List V → St → Hp → Prop) (h0 : Pv 0 [] σ0 H)
    (hs : ∀ i ys σ H, i < n → Pv i ys σ H → g (.int (lo + i)) σ H fun σ2 H2 => tc σ2 H2 fun b H4 => if b = true then te σ2 H4 fun y H5 => ys.length < sizeLine ∧ Pv (i + 1) (ys ++ [y]) σ2 H5 else Pv (i + 1) ys σ2 H4)
    (hd : ∀ ys σ H, Pv n ys σ H → ∀ D, H D = none → Q (.ref D) (upd H D (.lst ys))) :
    CompW (Itr lo n) g tc te Q σ0 H := by
  refine ⟨fun i m ys σ H => m = n - i ∧ i ≤ n ∧ Pv i ys σ H, ⟨n, by simp, Nat.zero_le _, h0⟩, ?_⟩
  rintro i m ys σ H ⟨rfl, hi, p⟩
  by_cases hlt : i < n
  · refine .inr ⟨hlt, Pv (i + 1), fun ys' σ' H' p' => ⟨n - (i + 1), by omega, rfl, hlt, p'⟩, fun x H' y => ?_⟩
    obtain ⟨e, y⟩ := y
    subst e y
    exact hs i ys σ _ hlt p
  · have e : i = n := by omega
    subst e
    exact .inl ⟨Nat.le_refl _, hd ys σ H p⟩
inductive EqD (K : PySem.W.Frag) (H : Hp) : Nat → V → V → Bool → Prop where
  | flat {n : Nat} {x y : V} : flatV x = true → flatV y = true → EqD K H n x y (eqV x y)
  | same {n : Nat} (a : Addr) : EqD K H n (.ref a) (.ref a) true
  | lists {n : Nat} {a b : Addr} {xs ys : List V} (e : Nat → Bool) : a ≠ b → SqL K H a xs → SqL K H b ys → xs.length = ys.length → (∀ (j : Nat) x y, xs[j]? = some x → ys[j]? = some y → EqD K H n x y (e j)) → EqD K H (n + 1) (.ref a) (.ref b) ((List.range xs.length).all e)
  | lens {n : Nat} {a b : Addr} {xs ys : List V} : a ≠ b → SqL K H a xs → SqL K H b ys → xs.length ≠ ys.length → EqD K H (n + 1) (.ref a) (.ref b) false
theorem eqAt_D {pins : List (Addr × Obj)} {σ : St} {H : Hp} {s : Shared} (I : Inv X pins σ H s) {n : Nat} {x y : V} {b : Bool} (d : EqD X.K H n x y b) :
    ∀ {A : Around} {u v : Value}, A.units + n < cLine → RelV x u → RelV y v → SeqAt.EqAt A s u v b := by
  induction d with
  | flat fx fy => intro A u v _ rx ry; exact eqAt_V rx ry fx fy
  | same a => intro A u v _ rx ry; cases rx; cases ry; exact SeqAt.EqAt.same _
  | @lists n a c xs ys e ne ha hb hl _ ih =>
    intro A u v hu rx ry
    cases rx; cases ry
    obtain ⟨its, r1, p1, _⟩ := I.list ha
    obtain ⟨its2, r2, p2, _⟩ := I.list hb
    have l1 := r1.length
    have l2 := r2.length
    refine SeqAt.EqAt.of_refs ne ?_
    have q := SeqAt.RcAt.lists (A := A) (e := e) p1.isList p2.isList (by rw [List.size_toArray, List.size_toArray]; omega) (by omega) (fun j h1 h2 => by
      have h1' : j < its.length := by simpa using h1
      have h2' : j < its2.length := by simpa using h2
      have e1 : xs[j]? = some (xs[j]'(by omega)) := List.getElem?_eq_getElem _
      have e2 : ys[j]? = some (ys[j]'(by omega)) := List.getElem?_eq_getElem _
      obtain ⟨u1, z1, q1⟩ := r1.get e1
      obtain ⟨u2, z2, q2⟩ := r2.get e2
      have w1 : its.toArray[j] = u1 := by
        rw [List.getElem?_eq_getElem h1'] at z1
        simpa using z1
      have w2 : its2.toArray[j] = u2 := by
        rw [List.getElem?_eq_getElem h2'] at z2
        simpa using z2
      rw [w1, w2]
      exact ih j _ _ e1 e2 (by show A.in1.units + n < cLine; have : A.in1.units = A.units + 1 := by first | rfl | simp [Around.in1]
                               omega) q1 q2)
    rw [List.size_toArray, ← l1] at q
    exact q
  | lens ne ha hb hl =>
    intro A u v hu rx ry
    cases rx; cases ry
    obtain ⟨its, r1, p1, _⟩ := I.list ha
    obtain ⟨its2, r2, p2, _⟩ := I.list hb
    have l1 := r1.length
    have l2 := r2.length
    exact SeqAt.EqAt.of_refs ne (SeqAt.RcAt.lists_lengths p1.isList p2.isList (by rw [List.size_toArray, List.size_toArray]; simp; omega) (by omega))
def LEq (K : PySem.W.Frag) (H : Hp) (n : Nat) (xs ys : List V) (r : Bool) : Prop :=
  (xs.length ≠ ys.length ∧ r = false) ∨ (∃ e : Nat → Bool, xs.length = ys.length ∧ (∀ (j : Nat) x y, xs[j]? = some x → ys[j]? = some y → EqD K H n x y (e j)) ∧ r = (List.range xs.length).all e)
theorem leq_rc {pins : List (Addr × Obj)} {σ : St} {H : Hp} {s : Shared} (I : Inv X pins σ H s) {A : Around} {n : Nat} {a b : Addr} {xs ys : List V} {r : Bool} (hu : A.units + n + 1 < cLine) (ha : SqL X.K H a xs) (hb : SqL X.K H b ys) (d : LEq X.K H n xs ys r) :
    SeqAt.RcAt A s (.ref a) (.ref b) r := by
  obtain ⟨its, r1, p1, _⟩ := I.list ha
  obtain ⟨its2, r2, p2, _⟩ := I.list hb
  have l1 := r1.length
  have l2 := r2.length
  rcases d with ⟨hl, rfl⟩ | ⟨e, hl, he, rfl⟩
  · exact SeqAt.RcAt.lists_lengths p1.isList p2.isList (by rw [List.size_toArray, List.size_toArray]; simp; omega) (by omega)
  · have q := SeqAt.RcAt.lists (A := A) (e := e) p1.isList p2.isList (by rw [List.size_toArray, List.size_toArray]; omega) (by omega) (fun j h1 h2 => by
      have h1' : j < its.length := by simpa using h1
      have h2' : j < its2.length := by simpa using h2
      have e1 : xs[j]? = some (xs[j]'(by omega)) := List.getElem?_eq_getElem _
      have e2 : ys[j]? = some (ys[j]'(by omega)) := List.getElem?_eq_getElem _
      obtain ⟨u1, z1, q1⟩ := r1.get e1
      obtain ⟨u2, z2, q2⟩ := r2.get e2
      have w1 : its.toArray[j] = u1 := by
        rw [List.getElem?_eq_getElem h1'] at z1
        simpa using z1
      have w2 : its2.toArray[j] = u2 := by
        rw [List.getElem?_eq_getElem h2'] at z2
        simpa using z2
      rw [w1, w2]
      exact eqAt_D I (he j _ _ e1 e2) (by show A.in1.units + n < cLine; have : A.in1.units = A.units + 1 := by first | rfl | simp [Around.in1]
                                          omega) q1 q2)
    rw [List.size_toArray, ← l1] at q
    exact q
end
end L2
namespace L2
open PySem PySem.Spec PyProof.Rows
section
variable {X : Cx}
theorem leq_rcNe {pins : List (Addr × Obj)} {σ : St} {H : Hp} {s : Shared} (I : Inv X pins σ H s) {A : Around} {n : Nat} {a b : Addr} {xs ys : List V} {r : Bool} (hu : A.units + n + 1 < cLine) (ha : SqL X.K H a xs) (hb : SqL X.K H b ys) (d : LEq X.K H n xs ys r) :
    SeqAt.RcNeAt A s (.ref a) (.ref b) (!r) := by
  obtain ⟨its, r1, p1, _⟩ := I.list ha
  obtain ⟨its2, r2, p2, _⟩ := I.list hb
  have l1 := r1.length
  have l2 := r2.length
  rcases d with ⟨hl, rfl⟩ | ⟨e, hl, he, rfl⟩
  · exact SeqAt.RcNeAt.lists_lengths p1.isList p2.isList (by rw [List.size_toArray, List.size_toArray]; simp; omega) (by omega)
  · have q := SeqAt.RcNeAt.lists (A := A) (e := e) p1.isList p2.isList (by rw [List.size_toArray, List.size_toArray]; omega) (by omega) (fun j h1 h2 => by
      have h1' : j < its.length := by simpa using h1
      have h2' : j < its2.length := by simpa using h2
      have e1 : xs[j]? = some (xs[j]'(by omega)) := List.getElem?_eq_getElem _
      have e2 : ys[j]? = some (ys[j]'(by omega)) := List.getElem?_eq_getElem _
      obtain ⟨u1, z1, q1⟩ := r1.get e1
      obtain ⟨u2, z2, q2⟩ := r2.get e2
      have w1 : its.toArray[j] = u1 := by
        rw [List.getElem?_eq_getElem h1'] at z1
        simpa using z1
      have w2 : its2.toArray[j] = u2 := by
        rw [List.getElem?_eq_getElem h2'] at z2
        simpa using z2
      rw [w1, w2]
      exact eqAt_D I (he j _ _ e1 e2) (by show A.in1.units + n < cLine; have : A.in1.units = A.units + 1 := by first | rfl | simp [Around.in1]
                                          omega) q1 q2)
    rw [List.size_toArray, ← l1] at q
    exact q
def rEqL (K : PySem.W.Frag) (n : Nat) (neg : Bool) : R2 := fun x y H Q => ∃ a b xs ys r, x = .ref a ∧ y = .ref b ∧ SqL K H a xs ∧ SqL K H b ys ∧ LEq K H n xs ys r ∧ Q (.bl (if neg then !r else r)) H
theorem op_eqL (n : Nat) (hu : X.A.units + n + 1 < cLine) : OpR X (compareOp .Eq) (rEqL X.K n false) := by
  intro pins s σ H x y v u Q I rx ry h
  obtain ⟨a, b, xs, ys, r, rfl, rfl, ha, hb, d, q⟩ := h
  cases rx; cases ry
  exact leq_rc I hu ha hb d _ _ _ _ ⟨.bl r, H, I, rfl, q⟩
theorem op_neL (n : Nat) (hu : X.A.units + n + 1 < cLine) : OpR X (compareOp .NotEq) (rEqL X.K n true) := by
  intro pins s σ H x y v u Q I rx ry h
  obtain ⟨a, b, xs, ys, r, rfl, rfl, ha, hb, d, q⟩ := h
  cases rx; cases ry
  exact leq_rcNe I hu ha hb d _ _ _ _ ⟨.bl (!r), H, I, rfl, q⟩
theorem all_range_iff {n : Nat} {e : Nat → Bool} : (List.range n).all e = true ↔ ∀ j, j < n → e j = true := by
  rw [List.all_eq_true]
  exact ⟨fun h j hj => h j (List.mem_range.mpr hj), fun h j hj => h j (List.mem_range.mp hj)⟩
end
end L2
namespace L2
open PySem PySem.Spec PyProof.Rows
section
variable {X : Cx}
theorem call_isi : CallR X (.builtin "isinstance") (fun xs H Q => ∃ x n t b, xs = [x, .ty n] ∧ TyOf X.K H x t ∧ PySem.W.kitOne X.K t (.type n) = some b ∧ Q (.bl b) H) := by
  intro pins s σ H xs us Q I r h
  obtain ⟨x, n, t, b, rfl, ty, e, q⟩ := h
  obtain ⟨u, w', rfl, rx, ry⟩ := vals2 r
  cases (show w' = Value.type n from ry)
  exact isinst_ok I rx ty e fun tk => ⟨.bl b, H, I.tok tk, rfl, q⟩
theorem kit_same (K : PySem.W.Frag) (n : String) : PySem.W.kitOne K (.type n) (.type n) = some true := by
  unfold PySem.W.kitOne
  rw [if_pos (beq_self_eq_true _)]
theorem kit_int_bool (K : PySem.W.Frag) : PySem.W.kitOne K (.type "int") (.type "bool") = some false := by
  unfold PySem.W.kitOne PySem.W.kitCls
  rw [if_neg (by decide +kernel)]
  show (if PySem.W.kitMeta "bool" = true then (fastBuiltinMro "int").map (·.contains (Value.type "bool")) else none) = some false
  rw [if_pos (by decide +kernel)]
  decide +kernel
theorem boot_int : bootBuiltins "int" = some (.type "int") := by decide +kernel
theorem boot_bool : bootBuiltins "bool" = some (.type "bool") := by decide +kernel
theorem boot_isi : bootBuiltins "isinstance" = some (.builtin "isinstance") := by decide +kernel
theorem boot_minB : bootBuiltins "min" = some (.builtin "min") := by decide +kernel
theorem boot_maxB : bootBuiltins "max" = some (.builtin "max") := by decide +kernel
end
def KeepBut (a : Addr) (H H' : Hp) : Prop := ∀ b o, H b = some o → b ≠ a → H' b = some o
theorem KeepBut.refl (a : Addr) (H : Hp) : KeepBut a H H := fun _ _ h _ => h
theorem KeepBut.trans {a : Addr} {H H1 H2 : Hp} (x : KeepBut a H H1) (y : KeepBut a H1 H2) : KeepBut a H H2 := fun b o h n => y b o (x b o h n) n
theorem Same.but {H H' : Hp} (a : Addr) (s : Same H H') : KeepBut a H H' := fun b o h _ => s b o h
theorem Same.upd_new {H : Hp} {p : Addr} {o : HO} (h : H p = none) : Same H (upd H p o) := fun b u e => by rw [upd_ne (ne_of_none e h)]; exact e
theorem Same.upd_r {H H' : Hp} {p : Addr} {o : HO} (s : Same H H') (h : H p = none) : Same H (L2.upd H' p o) := fun b u e => by rw [upd_ne (ne_of_none e h)]; exact s b u e
end L2
namespace L2
open PySem PySem.Spec PyProof.Rows
def Cal (P : Program) (w : World) (K : PySem.W.Frag) (mg : Str → Option Value) (base : Heap) (x : Str) (k : Nat) (ps : List Str) (sp : Sp) : Prop :=
  ∃ (f : Addr) (fd : FuncData), mg x = some (.ref f) ∧ PySem.W.keepIn K (.ref f) = true ∧ Binds K fd ps [] ∧ FnOk P w K mg base CX0 k f fd ps sp
section
variable {X : Cx} {x : Str} {p pos : Pos} {e : Expr} {es : List Expr} {t : TA} {k : Nat} {ps : List Str} {sp : Sp}
theorem pe_cal (c : Cal X.prog X.w X.K X.mg X.base x k ps sp) (hr : Room k X.A) (ha : PA X (e :: es) t) (hg : Gl X x := by rfl) (hdb : (x == ("__debug__" : Str)) = false := by decide)
    (he : starEach (e :: es) X.env = (false, eval e X.env) :: starEach es X.env := by rfl) (hpl : (backTo pos (starEach es X.env)).any (·.1) = false := by rfl) :
    PE X (.Call (.Name x p) (e :: es) [] pos) (tCall sp [] E0 t) := by
  obtain ⟨f, fd, h1, h2, h3, h4⟩ := c
  exact pe_call h4 hr hg h1 h2 h3 .nil pass0 ha hdb he hpl
theorem pe_isi {a b : Expr} {ta : TA} (hm : X.mg "isinstance" = none) (ha : PA X [a, b] ta) (hg : Gl X "isinstance" := by rfl)
    (he : starEach [a, b] X.env = (false, eval a X.env) :: starEach [b] X.env := by rfl) (hpl : (backTo pos (starEach [b] X.env)).any (·.1) = false := by rfl) :
    PE X (.Call (.Name "isinstance" p) [a, b] [] pos) (tCB (fun xs H Q => ∃ x n t b, xs = [x, .ty n] ∧ TyOf X.K H x t ∧ PySem.W.kitOne X.K t (.type n) = some b ∧ Q (.bl b) H) ta) :=
  pe_callB call_isi hg hm boot_isi ha (by decide) (by decide) he hpl
theorem pe_tyInt (hm : X.mg "int" = none) (hg : Gl X "int" := by rfl) : PE X (.Name "int" p) (tC (.ty "int")) := pe_bltn hg hm boot_int rfl
theorem pe_tyBool (hm : X.mg "bool" = none) (hg : Gl X "bool" := by rfl) : PE X (.Name "bool" p) (tC (.ty "bool")) := pe_bltn hg hm boot_bool rfl
theorem pe_lenL (hm : X.mg "len" = none) (ha : PA X [e] t) (hg : Gl X "len" := by rfl)
    (he : starEach [e] X.env = (false, eval e X.env) :: starEach [] X.env := by rfl) : PE X (.Call (.Name "len" p) [e] [] pos) (tCB (fun xs H Q => ∃ p ys, xs = [.ref p] ∧ (SqL X.K H p ys ∨ SqT X.K H p ys) ∧ Q (.int ys.length) H) t) :=
  pe_callB call_len_seq hg hm PySem.boot_len ha (by decide) (by decide) he rfl
end
end L2
namespace Mth
end Mth
namespace L2
open PySem PySem.Spec PyProof.Rows
theorem CompOk.of {X : Cx} {N : List Str} {nl : Nat} {fr : List Nat} {scope : Scope} (h1 : (scope.names.all fun y => y.2 != .cell) = true := by rfl) (h2 : scope.kind = .function := by rfl)
    (h3 : (scope.names.all fun y => y.2 != .local || scope.names.lookup y.1 == some .local) = true := by rfl)
    (h4 : (scope.names.all fun p => p.2 != .free || (X.env.kindOf p.1 == some .cell || X.env.kindOf p.1 == some .free)) = true := by rfl) (h5 : N.length = nl + fr.length := by rfl)
    (h6 : ((List.range fr.length).all fun k => match fr[k]? with
      | some j => (match N[nl + k]?, X.N[j]? with
        | some y, some z => y == z && (X.env.scope.names.lookup y == some .local || X.env.scope.names.lookup y == some .cell || X.env.scope.names.lookup y == some .free) && scope.names.lookup y == some .free
        | _, _ => false)
      | none => false) = true := by rfl) : CompOk X N nl fr scope where
  cell := fun y hy e => by
    have := List.all_eq_true.mp h1 y hy
    rw [e] at this; exact absurd this (by decide)
  kind := h2
  names := fun y hy e => by
    have := List.all_eq_true.mp h3 y hy
    rw [e] at this
    have q : (scope.names.lookup y.1 == some NameKind.local) = true := by simpa using this
    exact eq_of_beq q
  free := fun p hp e => by
    have := List.all_eq_true.mp h4 p hp
    rw [e] at this
    have q : (X.env.kindOf p.1 == some NameKind.cell || X.env.kindOf p.1 == some NameKind.free) = true := by simpa using this
    rcases Bool.or_eq_true _ _ |>.mp q with z | z
    · exact .inl (eq_of_beq z)
    · exact .inr (eq_of_beq z)
  len := h5
  fr := fun k j e => by
    have hk : k < fr.length := (List.getElem?_eq_some_iff.mp e).1
    have := List.all_eq_true.mp h6 k (List.mem_range.mpr hk)
    rw [e] at this
    dsimp only at this
    cases e1 : N[nl + k]? with
    | none => rw [e1] at this; cases this
    | some y =>
      cases e2 : X.N[j]? with
      | none => rw [e1, e2] at this; cases this
      | some z =>
        rw [e1, e2] at this
        dsimp only at this
        rw [Bool.and_eq_true, Bool.and_eq_true] at this
        obtain ⟨⟨q1, q2⟩, q3⟩ := this
        have hyz : y = z := eq_of_beq q1
        subst hyz
        refine ⟨y, rfl, rfl, ?_, eq_of_beq q3⟩
        rw [Bool.or_eq_true, Bool.or_eq_true] at q2
        rcases q2 with (q | q) | q
        · exact .inl (eq_of_beq q)
        · exact .inr (.inl (eq_of_beq q))
        · exact .inr (.inr (eq_of_beq q))
end L2
namespace Mth
theorem atI_map {p : List Int} {i : Int} (h0 : 0 ≤ i) (h1 : i < p.length) : L2.atI (p.map L2.V.int) i = some (.int (p.getD i.toNat 0)) := by
  obtain ⟨j, rfl⟩ := Int.eq_ofNat_of_zero_le h0
  refine L2.atI_nat ?_
  have hj : j < p.length := by omega
  rw [List.getElem?_map, List.getElem?_eq_getElem hj]
  show some (L2.V.int p[j]) = _
  rw [Int.toNat_natCast]
  rw [List.getD_eq_getElem?_getD, List.getElem?_eq_getElem hj]
  rfl
end Mth
namespace L2
open PySem PySem.Spec PyProof.Rows
theorem leq_nil (K : PySem.W.Frag) (H : Hp) (n : Nat) (xs : List V) : LEq K H n xs [] xs.isEmpty := by
  cases xs with
  | nil => exact .inr ⟨fun _ => true, rfl, fun j x y e => by simp at e, rfl⟩
  | cons x r => exact .inl ⟨by simp, rfl⟩
section
variable {X : Cx} {p pos apos : Pos} {e o : Expr} {es : List Expr} {t : TA} {to : TE}
theorem pe_append (ho : PE X o to) (ha : PA X [e] t)
    (hbase : attributeBase o "append" X.env (eval o X.env) = eval o X.env := by rfl)
    (hfew : ((backTo pos (starEach [e] X.env)).all (fun x => !x.1) && (backToKw pos (keywordEach [] X.env)).all (fun x => x.1.isSome)
      && decide ([e].length + ([] : List Keyword).length + (if ([] : List Keyword).isEmpty then 0 else 1) < 30)) = true := by rfl)
    (hline : (apos.endLine == pos.line) = true := by rfl) (hs : starEach [e] X.env = (false, eval e X.env) :: starEach [] X.env := by rfl) (hplain : (backTo pos (starEach [] X.env)).any (·.1) = false := by rfl) :
    PE X (.Call (.Attribute o "append" apos) [e] [] pos) (tBM X.K "list" rAppend to t) :=
  pe_bm PySem.F.plainAttrs_list PySem.F.slot_list_append PySem.F.type_list_append mt_append ho ha hbase hfew hline hs hplain
theorem pe_min2 {a b : Expr} (hc : X.calm = true) (hm : X.mg "min" = none) (ha : PA X [a, b] t) (hg : Gl X "min" := by rfl) (he : starEach [a, b] X.env = (false, eval a X.env) :: starEach [b] X.env := by rfl) (hpl : (backTo pos (starEach [b] X.env)).any (·.1) = false := by rfl) :
    PE X (.Call (.Name "min" p) [a, b] [] pos) (tCB (fun xs H Q => ∃ i j, xs = [.int i, .int j] ∧ Q (.int (if j < i then j else i)) H) t) :=
  pe_callB (call_min2 hc) hg hm boot_minB ha (by decide) (by decide) he hpl
theorem pe_max2 {a b : Expr} (hc : X.calm = true) (hm : X.mg "max" = none) (ha : PA X [a, b] t) (hg : Gl X "max" := by rfl) (he : starEach [a, b] X.env = (false, eval a X.env) :: starEach [b] X.env := by rfl) (hpl : (backTo pos (starEach [b] X.env)).any (·.1) = false := by rfl) :
    PE X (.Call (.Name "max" p) [a, b] [] pos) (tCB (fun xs H Q => ∃ i j, xs = [.int i, .int j] ∧ Q (.int (if j > i then j else i)) H) t) :=
  pe_callB (call_max2 hc) hg hm boot_maxB ha (by decide) (by decide) he hpl
end
end L2
namespace Mth
end Mth
namespace L2
open PySem PySem.Spec PyProof.Rows
section
variable {X : Cx} {p pos : Pos} {e : Expr} {t : TA}
end
end L2
namespace Mth
end Mth
namespace L2
open PySem PySem.Spec PyProof.Rows
theorem KeepBut.free {a l : Addr} {H H' : Hp} (k : KeepBut a H H') (h : H' l = none) (n : l ≠ a) : H l = none := by
  cases e : H l with
  | none => rfl
  | some o => have := k l o e n; rw [h] at this; cases this
theorem Same.kb {a : Addr} {H H1 H2 : Hp} (s : Same H H1) (k : KeepBut a H1 H2) (h : H a = none) : Same H H2 := fun b o e => k b o (s b o e) (ne_of_none e h)
end L2
namespace Mth
end Mth
namespace L2
open PySem PySem.Spec PyProof.Rows
section
variable {X : Cx} {l : Expr} {ta : TA} {p pos : Pos} {elts : List Expr} {x1 : Nat} {tpos : Pos}
end
end L2
namespace Mth
end Mth
namespace L2
open PySem PySem.Spec PyProof.Rows
section
variable {X : Cx}
end
end L2
namespace Mth
end Mth
namespace L2
open PySem PySem.Spec PyProof.Rows
def CDivB (i j : Int) : Prop := 0 < j ∧ j ≤ 1000000000000000000000000000000
theorem op_fdivB {X : Cx} : OpR X (binaryOp .FloorDiv) (rI CDivB fun i j => .int (i / j)) := opI fun i j _ _ _ _ _ hc q => by
  have hp : Builtin.divisionGoesByPylong i j = false := by
    refine PyProof.noPylong_of_log2 ?_
    obtain ⟨h1, h2⟩ := hc
    have : j.natAbs < 2 ^ 9000 := Nat.lt_of_le_of_lt (show j.natAbs ≤ 1000000000000000000000000000000 by omega) (by decide +kernel)
    exact (Nat.log2_lt (by omega)).mpr this
  refine floordiv_int (by have := hc.1; omega) ?_ (.inl hp)
  rw [Int.fdiv_eq_ediv_of_nonneg i (by have := hc.1; omega)]
  exact q
end L2
namespace Mth
end Mth
namespace Mth
end Mth
namespace L2
open PySem PySem.Spec PyProof.Rows
end L2
namespace L2
open PySem PySem.Spec PyProof.Rows
section
variable {X : Cx} {l m : Expr} {ta : TA} {p pos : Pos} {elts : List Expr} {x1 : Nat} {tpos : Pos}
end
section
variable {X : Cx} {e : Expr} {t : TA} {p pos : Pos}
end
end L2
namespace L2
open PySem PySem.Spec PyProof.Rows
theorem pg_tupK (K : PySem.W.Frag) {X : Cx} {es : List Expr} {k : Nat} {t : TGs} {n : Nat} {pos : Pos} (hc : X.calm = true) (h : PGs X es t) (hK : X.K = K := by rfl)
    (hn : (assignEach es X.env).length = n := by rfl) (hst : (assignEach es X.env).findIdx? (·.1) = none := by rfl) : PG X (.Tuple es k pos) (gTup K n t) := by
  subst hK
  exact pg_tup hc h hn hst
end L2
namespace L2
open PySem PySem.Spec PyProof.Rows
section
variable {X : Cx} {o e : Expr} {to : TE} {t : TA} {apos pos p : Pos}
end
end L2
namespace Mth
end Mth
namespace L2
open PySem PySem.Spec PyProof.Rows
section
variable {X : Cx}
variable {e : Expr} {t : TA} {p pos kpos : Pos}
def tRev (K : PySem.W.Frag) (te : TE) (ts : TO) : TE := fun σ H Q => te σ H fun x H1 => ts σ H1 fun o H2 => o = some (-1) ∧ ∃ a xs, x = .ref a ∧ SqL K H2 a xs ∧ ∀ p, H2 p = none → Q (.ref p) (upd H2 p (.lst xs.reverse))
theorem pe_rev {st : Expr} {te : TE} {ts : TO} {p2 : Pos} (he : PE X e te) (hst : PO X (some st) ts) : PE X (.Subscript e (.Slice none none (some st) p2) pos) (tRev X.K te ts) := by
  intro pins s σ H Q I h
  refine Subscript_ (thn (he pins s σ H _ I h) fun v s1 ⟨x, H1, I1, r1, q1⟩ => ?_)
  refine wpAny_Slice ?_
  rw [evalPart_none]
  refine wpAny_pure (wpAny_pure ?_)
  refine thn (hst pins s1 σ H1 _ I1 q1) fun vk s3 ⟨k, H3, I3, pk, ek, a, xs, ex, hx, q⟩ => ?_
  subst ek ex
  cases r1
  have I4 : Inv X pins σ H3 { s3 with heap := s3.heap.push { cls := .type "slice", data := .fields #[.none, .none, vk] } } := I3.kept (t' := s3.toks) fun b ob q => Heap.get?_push_of_some _ q
  obtain ⟨its, r, ht, hz⟩ := I4.list hx
  have hlen := r.length
  show wpAny (model X.prog X.w) X.A (subscriptTail e (.Slice none none (some st) p2) (.ref a) (.ref s3.heap.objs.size)) (EP X pins σ Q) X.xe { s3 with heap := s3.heap.push { cls := .type "slice", data := .fields #[.none, .none, vk] } }
  refine tail_any (ops := [.ref a, .ref s3.heap.objs.size]) (T := "list") ht.isList.typeIs slot_list_getitem.lookup ?_ rfl
  refine wpAny_getItem_list_slice ht.isList (Heap.IsSliceOf.new ..) .none .none pk (by decide) ?_ (by rw [List.size_toArray] <;> omega)
  rw [PySem.W.krv_pick]
  have I5 := I4.laid (t' := s3.toks) (o := .lst xs.reverse) (h' := (s3.heap.push { cls := .type "slice", data := .fields #[.none, .none, vk] }).push { cls := .type "list", data := .seq its.reverse.toArray }) (a := (s3.heap.push { cls := .type "slice", data := .fields #[.none, .none, vk] }).objs.size)
    (fun b ob q => Heap.get?_push_of_some _ q) (Nat.le_refl _) ⟨by rw [List.length_reverse]; exact hz, its.reverse, 0, r.reverse, Heap.get?_push_size _ rfl⟩
  exact ⟨.ref _, _, I5, rfl, q _ (I4.hok.fresh (Nat.le_refl _))⟩
end
end L2
namespace Mth
end Mth
namespace Mth
end Mth
namespace L2
open PySem PySem.Spec PyProof.Rows
def litsOf : List Expr → Option (List Int)
  | [] => some []
  | .Constant (.int i) _ _ :: es => (litsOf es).map (i :: ·)
  | _ :: _ => none
def tLitA (ns : List Int) : TA := fun _ H Q => Q (ns.map V.int) H
def tLits (ns : List Int) : TE := fun _ H Q => ns.length ≤ sizeLine ∧ ∀ p, H p = none → Q (.ref p) (upd H p (.lst (ns.map V.int)))
theorem starEach_int (i : Int) (j : Nat) (p : Pos) (es : List Expr) (env : Env) : starEach (.Constant (.int i) j p :: es) env = (false, eval (.Constant (.int i) j p) env) :: starEach es env := rfl
theorem pa_litsO {X : Cx} : ∀ (es : List Expr) (ns : List Int), litsOf es = some ns → PA X es (tLitA ns)
  | [], ns, h => by
    have : ns = [] := (Option.some.inj h).symm
    subst this
    exact fun pos pins s σ H Q I h => pa_nil pos pins s σ H Q I h
  | e :: es, ns, h => by
    unfold litsOf at h
    split at h
    · rename_i h0; cases h0
    · rename_i i j p es' heq
      cases heq
      cases ho : litsOf es with
      | none => rw [ho] at h; cases h
      | some ms =>
        rw [ho] at h
        cases h
        exact fun pos pins s σ H Q I h => (pa_cons (te := tC (.int i)) pe_int (pa_litsO es ms ho) (starEach_int i j p es X.env)) pos pins s σ H Q I h
    · cases h
theorem pe_litsO {X : Cx} {pos : Pos} {es : List Expr} (ns : List Int) (h : litsOf es = some ns) : PE X (.List es pos) (tLits ns) := fun pins s σ H Q I h' => pe_lst (pa_litsO es ns h) pins s σ H Q I (by
  show (ns.map V.int).length ≤ sizeLine ∧ _
  rw [List.length_map]; exact h')
end L2
namespace L2
open PySem PySem.Spec PyProof.Rows
end L2
namespace Mth
end Mth
namespace L2
open PySem PySem.Spec PyProof.Rows
section
variable {X : Cx}
end
end L2
namespace Mth
end Mth
namespace Mth
structure IsLR (l m d : Nat) : Prop where
  parts : d ∣ m
  rest : Nat.gcd l (m / d) = 1
  least : ∀ e, e ∣ m → Nat.gcd l (m / e) = 1 → d ∣ e
theorem IsLR.uniq {l m a b : Nat} (x : IsLR l m a) (y : IsLR l m b) : a = b := Nat.dvd_antisymm (x.least b y.parts y.rest) (y.least a x.parts x.rest)
theorem IsLR.pos {l m d : Nat} (x : IsLR l m d) (hm : 0 < m) : 0 < d := by
  rcases Nat.eq_zero_or_pos d with z | z
  · have := x.parts
    rw [z] at this
    have := Nat.zero_dvd.mp this
    omega
  · exact z
structure LrUp (l m d : Nat) : Prop where
  pos : 0 < d
  parts : d ∣ m
  least : ∀ e, e ∣ m → Nat.gcd l (m / e) = 1 → d ∣ e
theorem LrUp.start (l m : Nat) : LrUp l m 1 := ⟨by decide, Nat.one_dvd m, fun e _ _ => Nat.one_dvd e⟩
theorem LrUp.step {l m d : Nat} (hm : 0 < m) (u : LrUp l m d) : LrUp l m (d * Nat.gcd l (m / d)) := by
  obtain ⟨k, rfl⟩ := u.parts
  have dp := u.pos
  rw [Nat.mul_div_cancel_left k dp]
  have kp : 0 < k := Nat.pos_of_mul_pos_left hm |> fun h => by
    rcases Nat.eq_zero_or_pos k with z | z
    · rw [z, Nat.mul_zero] at hm; omega
    · exact z
  refine ⟨Nat.mul_pos dp (Nat.gcd_pos_of_pos_right _ kp), Nat.mul_dvd_mul_left d (Nat.gcd_dvd_right l k), fun e he hr => ?_⟩
  obtain ⟨f, rfl⟩ := u.least e he hr
  have hfk : f ∣ k := Nat.dvd_of_mul_dvd_mul_left dp he
  obtain ⟨g, rfl⟩ := hfk
  have fp : 0 < f := by
    rcases Nat.eq_zero_or_pos f with z | z
    · rw [z, Nat.zero_mul] at kp; omega
    · exact z
  have e1 : d * (f * g) / (d * f) = g := by
    rw [← Nat.mul_assoc, Nat.mul_div_cancel_left g (Nat.mul_pos dp fp)]
  rw [e1] at hr
  refine Nat.mul_dvd_mul_left d ?_
  have c : Nat.Coprime (Nat.gcd l (f * g)) g := by
    have : Nat.Coprime l g := hr
    exact Nat.Coprime.coprime_dvd_left (Nat.gcd_dvd_left l (f * g)) this
  exact c.dvd_of_dvd_mul_right (Nat.gcd_dvd_right l (f * g))
theorem LrUp.done {l m d : Nat} (u : LrUp l m d) (h : Nat.gcd l (m / d) = 1) : IsLR l m d := ⟨u.parts, h, u.least⟩
theorem LrUp.more {l m d : Nat} (hm : 0 < m) (u : LrUp l m d) (h : Nat.gcd l (m / d) ≠ 1) : d < d * Nat.gcd l (m / d) ∧ d * Nat.gcd l (m / d) ≤ m := by
  have kp : 0 < m / d := Nat.div_pos (Nat.le_of_dvd hm u.parts) u.pos
  have gp : 0 < Nat.gcd l (m / d) := Nat.gcd_pos_of_pos_right _ kp
  have dp := u.pos
  refine ⟨?_, Nat.le_of_dvd hm (u.step hm).parts⟩
  have : 2 ≤ Nat.gcd l (m / d) := by omega
  calc d < d * 2 := by omega
    _ ≤ d * Nat.gcd l (m / d) := Nat.mul_le_mul_left d this
end Mth
namespace Mth
end Mth
namespace L2
open PySem PySem.Spec PyProof.Rows
section
variable {prog : Program} {w : World} {A : Around} {E : Value → Shared → Prop} {s : Shared} {κ : Type} [DecidableEq κ] {knd : KeyKind prog w κ}
end
section
variable {X : Cx}
end
end L2
namespace L2
open PySem PySem.Spec PyProof.Rows
section
variable {X : Cx}
end
end L2
namespace Mth
end Mth
namespace Mth
end Mth
namespace Mth
theorem maxmin {n c : Int} (hn : 1 ≤ n) (hc : 0 ≤ c) : ∃ mx, (if (if n < c then n else c) > 1 then (if n < c then n else c) else (1 : Int)) = mx ∧ 1 ≤ mx ∧ mx ≤ n := by
  refine ⟨_, rfl, ?_⟩
  split <;> split at * <;> omega
end Mth
namespace L2
open PySem PySem.Spec PyProof.Rows
def tLitsT (ns : List Int) : TE := fun _ H Q => ns.length ≤ sizeLine ∧ ∀ p, H p = none → Q (.ref p) (upd H p (.tup (ns.map V.int)))
theorem pe_litsT {X : Cx} {x1} {pos : Pos} {es : List Expr} (ns : List Int) (h : litsOf es = some ns) : PE X (.Tuple es x1 pos) (tLitsT ns) := fun pins s σ H Q I h' => pe_tup (pa_litsO es ns h) pins s σ H Q I (by
  show (ns.map V.int).length ≤ sizeLine ∧ _
  rw [List.length_map]; exact h')
end L2
namespace Mth
end Mth
namespace L2
open PySem PySem.Spec PyProof.Rows
structure XPS (X : Cx) (st : Stmt) (t : TS) : Prop where
  h : PS X st t
structure XPSs (X : Cx) (st : List Stmt) (t : TS) : Prop where
  h : PSs X st t
section
variable {X : Cx} {st : Stmt} {rest : List Stmt} {t u : TS}
theorem xb_cons (h1 : XPS X st t) (h2 : PSs X rest u) : XPSs X (st :: rest) (tSeq t u) := ⟨pss_cons h1.h h2⟩
theorem xb_pre (h1 : PS X st t) (h2 : XPSs X rest u) : PSs X (st :: rest) (tSeq t u) := pss_cons h1 h2.h
end
end L2
namespace L2
open PySem PySem.Spec PyProof.Rows
theorem HOk.hide {P : Program} {w : World} {H : Hp} {h : Heap} {as : List Addr} (x : HOk P w H h) (hn : ∀ b ∈ as, H b = none) : HOk P w H (PySem.W.hideAll h as) := fun a o e =>
  (x a o e).stay (fun b u hb q => PySem.W.hideAll_get _ q fun hm => by
    have := hn b hm
    rcases hb with rfl | hb
    · rw [e] at this; cases this
    · rw [hb] at this; cases this) (fun _ q => q) fun _ _ q => q
def CX1 (P : Program) (w : World) : CXT := fun outer H s E e s' =>
  ∃ (a t C : Addr) (vs : List Value) (B : Heap) (H' : Hp), e = .ref a ∧ s'.os = s.os ∧ AllBare s'.gens ∧ Un (frs outer) [] H H' s.heap s'.heap ∧ HOk P w H' B ∧
    (∀ b o, s.heap.get? b = some o → H b = none → b ∉ frs outer → B.get? b = some o) ∧ (∀ b o, s.heap.get? b = some o → b ∉ frs outer → ∃ o', B.get? b = some o') ∧
    Heap.FlyingW B outer a (.ref C) (.ref t) s'.heap ∧ s'.heap.TupAt t vs ∧ B.get? t = none ∧ E (.ref C) none H'
theorem un_fly {fs : List Addr} {H0 H1 : Hp} {h0 h1 h2 B : Heap} (u : Un fs [] H0 H1 h0 h1) (kb : ∀ b o, h0.get? b = some o → H0 b = none → b ∉ fs → B.get? b = some o) (tb : ∀ b o, h0.get? b = some o → b ∉ fs → ∃ o', B.get? b = some o')
    (st : B.StaysIn h2) (up : h1.UpToSlots h2) (fr : ∀ b ∈ fs, ∀ o, h1.get? b = some o → ∀ vs, o.data ≠ .fields vs) : Un fs [] H0 H1 h0 h2 where
  keep := fun b o q n hb _ => st b o (kb b o q n hb)
  slot := fun b o q n hb hx => by
    obtain ⟨sl, e⟩ := u.slot b o q n hb hx
    obtain ⟨sl2, e2⟩ := up b _ e (fr b hb _ e)
    exact ⟨sl2, e2⟩
  free := u.free
  there := fun b o q hx => by
    by_cases hb : b ∈ fs
    · obtain ⟨o', e⟩ := u.there b o q hx
      obtain ⟨sl, e2⟩ := up b o' e (fr b hb _ e)
      exact ⟨_, e2⟩
    · obtain ⟨o', e⟩ := tb b o q hb
      exact ⟨o', st b o' e⟩
  tups := u.tups
  frzs := u.frzs
  tbls := u.tbls
def Raises (X : Cx) (E : XK) : Prop := ∀ (pins : List (Addr × Obj)) (σ : St) (H : Hp) (s : Shared) (h' : Heap) (e C : Addr) (vs : List Value), Inv X pins σ H s → Heap.MadeExcOf s.heap h' e (.ref C) vs → E (.ref C) none H → X.xe (.ref e) { s with heap := h' }
theorem frames_plain {X : Cx} {pins : List (Addr × Obj)} {σ : St} {H : Hp} {s : Shared} (I : Inv X pins σ H s) : ∀ b ∈ frs X.stack, ∀ o, s.heap.get? b = some o → ∀ vs, o.data ≠ .fields vs := fun b hb o ho => by
  obtain ⟨_, o', ho', hn⟩ := I.stack.mem hb
  rw [ho] at ho'
  cases ho'
  exact hn
section
variable {P : Program} {w : World} {K : PySem.W.Frag} {mg : Str → Option Value} {base : Heap} {N : List Str} {qual : Str} {scope : Scope} {f : Addr} {cd : Value} {A : Around} {outer : List Env} {s₀ : Shared} {H₀ : Hp} {E E' : XK}
theorem own_above {pins : List (Addr × Obj)} {σ : St} {H : Hp} {s : Shared} (I : Inv (cxOf (CX1 P w) P w K mg base N qual scope f cd A outer s₀ H₀ E) pins σ H s) {b : Addr} {o : Obj} (h : s₀.heap.get? b = some o) (hb : b ∉ frs outer) :
    b ∉ frs (envOfC qual scope s₀.heap.objs.size f cd :: outer) := fun hm => by
  unfold frs at hm hb
  rw [List.filterMap_cons] at hm
  have hf : (envOfC qual scope s₀.heap.objs.size f cd).frame = some s₀.heap.objs.size := rfl
  rw [hf] at hm
  rcases List.mem_cons.mp hm with z | z
  · have := Heap.lt_size h
    rw [z] at this
    exact absurd this (Nat.lt_irrefl _)
  · exact hb z
theorem raises_cx : Raises (cxOf (CX1 P w) P w K mg base N qual scope f cd A outer s₀ H₀ E) E := by
  intro pins σ H s h' e C vs I hx hE
  show wpAny (model P w) _ (leaving _ (.ref e)) _ _ _
  have hin : ∀ env ∈ (envOfC qual scope s₀.heap.objs.size f cd :: outer), ∀ b, env.frame = some b → b ∈ frs (envOfC qual scope s₀.heap.objs.size f cd :: outer) := fun env he b hb => List.mem_filterMap.mpr ⟨env, he, hb⟩
  have hst : s.heap.FunFrames base (envOfC qual scope s₀.heap.objs.size f cd :: outer) := I.stack
  have hsf : ∀ b ∈ frs (envOfC qual scope s₀.heap.objs.size f cd :: outer), H b = none := I.stkFree
  have hub : Un (frs outer) [] H₀ H s₀.heap s.heap := I.base
  refine wpAny_leaves_madeW (base := PySem.W.hideAll s.heap (frs (envOfC qual scope s₀.heap.objs.size f cd :: outer))) (h := s.heap) I.ok.frames rfl (fun b o q => PySem.W.of_hideAll _ q) (PySem.W.funFrames_hide hst hin) hx fun h2 t fl tup tn up => ?_
  have up' : s.heap.UpToSlots h2 := (Heap.UpToSlots.of_keeps hx.keeps).trans up
  have kb : ∀ b o, s₀.heap.get? b = some o → H₀ b = none → b ∉ frs outer → (PySem.W.hideAll s.heap (frs (envOfC qual scope s₀.heap.objs.size f cd :: outer))).get? b = some o := fun b o q n hb =>
    PySem.W.hideAll_get _ (hub.keep b o q n hb (by simp)) (own_above I q hb)
  have tb : ∀ b o, s₀.heap.get? b = some o → b ∉ frs outer → ∃ o', (PySem.W.hideAll s.heap (frs (envOfC qual scope s₀.heap.objs.size f cd :: outer))).get? b = some o' := fun b o q hb => by
    obtain ⟨o', e'⟩ := hub.there b o q (by simp)
    exact ⟨o', PySem.W.hideAll_get _ e' (own_above I q hb)⟩
  refine ⟨e, t, C, vs, _, H, rfl, I.os, I.bare, un_fly hub kb tb fl.1 up' (fun b hb o ho => ?_), I.hok.hide hsf, kb, tb, fl, tup, tn, hE⟩
  exact frames_plain I b (by show b ∈ frs (envOfC qual scope s₀.heap.objs.size f cd :: outer); unfold frs at hb ⊢; rw [List.filterMap_cons]; exact List.mem_cons_of_mem _ hb) o ho
theorem passes_cx (imp : ∀ c d H, E c d H → E' c d H) : Passes (CX1 P w) (cxOf (CX1 P w) P w K mg base N qual scope f cd A outer s₀ H₀ E') E := by
  intro pins σ H s e s' I h
  obtain ⟨a, t, C, vs, B, H', rfl, os, bare, un, hok, kb, tb, fl, tup, tn, hE⟩ := h
  show wpAny (model P w) _ (leaving _ (.ref a)) _ _ _
  have hub : Un (frs outer) [] H₀ H s₀.heap s.heap := I.base
  have un' : Un (frs (envOfC qual scope s₀.heap.objs.size f cd :: outer)) [] H H' s.heap s'.heap := un
  have sub : ∀ b, b ∈ frs outer → b ∈ frs (envOfC qual scope s₀.heap.objs.size f cd :: outer) := fun b hb => by
    unfold frs at hb ⊢; rw [List.filterMap_cons]; exact List.mem_cons_of_mem _ hb
  refine wpAny_leaves_onW (L := s₀.heap.objs.size) I.ok.frames rfl fl fun h2 fl2 up => ?_
  have kb' : ∀ b o, s₀.heap.get? b = some o → H₀ b = none → b ∉ frs outer → B.get? b = some o := fun b o q n hb =>
    kb b o (hub.keep b o q n hb (by simp)) (hub.free b o q n (by simp)) (own_above I q hb)
  have tb' : ∀ b o, s₀.heap.get? b = some o → b ∉ frs outer → ∃ o', B.get? b = some o' := fun b o q hb => by
    obtain ⟨o', e'⟩ := hub.there b o q (by simp)
    exact tb b o' e' (own_above I q hb)
  have plain : ∀ b ∈ frs outer, ∀ o, s'.heap.get? b = some o → ∀ vs, o.data ≠ .fields vs := fun b hb o ho => by
    obtain ⟨_, o1, ho1, hn⟩ := I.stack.mem (sub b hb)
    obtain ⟨sl, e1⟩ := un'.slot b o1 ho1 (I.stkFree b (sub b hb)) (sub b hb) (by simp)
    rw [ho] at e1
    cases e1
    exact hn
  have unw : Un (frs outer) [] H₀ H' s₀.heap s'.heap := {
    keep := fun b o q n hb _ => un'.keep b o (hub.keep b o q n hb (by simp)) (hub.free b o q n (by simp)) (own_above I q hb) (by simp)
    slot := fun b o q n hb _ => by
      obtain ⟨sl, e1⟩ := hub.slot b o q n hb (by simp)
      obtain ⟨sl2, e2⟩ := un'.slot b _ e1 (hub.free b o q n (by simp)) (sub b hb) (by simp)
      exact ⟨sl2, e2⟩
    free := fun b o q n _ => by
      obtain ⟨sl, e1⟩ := hub.any q n (by simp)
      exact un'.free b _ e1 (hub.free b o q n (by simp)) (by simp)
    there := fun b o q _ => by
      obtain ⟨o', e1⟩ := hub.there b o q (by simp)
      exact un'.there b o' e1 (by simp)
    tups := fun b xs q => un'.tups b xs (hub.tups b xs q)
    frzs := fun b o u q => un'.frzs b o u (hub.frzs b o u q)
    tbls := fun b ps q => by
      obtain ⟨m1, q1⟩ := hub.tbls b ps q
      obtain ⟨m2, q2⟩ := un'.tbls b _ q1
      exact ⟨m1 ++ m2, by rw [q2, Array.append_assoc]⟩ }
  exact ⟨a, t, C, vs, B, H', rfl, os.trans I.os, bare, un_fly unw kb' tb' fl2.1 up plain, hok, kb', tb', fl2, tup.of_slots up, tn, imp _ _ _ hE⟩
end
theorem exc_obj {K : PySem.W.Frag} {h : Heap} {C : Addr} {bmB : List Value} {newId : String} (X : K.In h) (q : PySem.W.excIn K C bmB newId = true) :
    ∃ (bm : List Value) (N : Addr) (nm qn : Str) (bs : List Value) (hdct : Bool) (sn : List Str) (sub : List Value) (ab : Bool) (col : Option Bool) (dd : Option Addr) (k0 k1 k2 k3 k5 : Option Value) (mN : Str → Option Value),
      K.lookup C = some (excClassObj nm qn C N bs bm hdct sn sub ab col dd k0 k1 k2 k3 k5 newId) ∧ h.Ns N mN ∧ mN "__init__" = none ∧ OwnTail h bmB bm := by
  unfold PySem.W.excIn at q
  split at q
  · rename_i dd cd sl look
    split at q
    · rename_i C' bm k0 k1 k2 k3 n k5 hmro hsl
      rw [Bool.and_eq_true, Bool.and_eq_true, Bool.and_eq_true, Bool.and_eq_true, Bool.and_eq_true] at q
      obtain ⟨⟨⟨⟨⟨q1, q2⟩, q3⟩, q4⟩, q5⟩, q6⟩ := q
      have e1 : C' = C := beq_iff_eq.mp q1
      have e2 : n = newId := beq_iff_eq.mp q2
      subst e1 e2
      obtain ⟨nm, bs, mro, ns, qn, hd, sn, sub, ab, col, del⟩ := cd
      have e3 : mro = .ref C' :: bm := hmro
      have e4 : del = false := by
        cases del with
        | false => rfl
        | true => cases q3
      subst e3 e4
      have e5 : sl = #[k0, k1, k2, k3, some (.builtin n), k5] := by
        apply Array.ext'
        exact hsl
      subst e5
      exact ⟨bm, ns, nm, qn, bs, hd, sn, sub, ab, col, dd, k0, k1, k2, k3, k5, _, look, .of_isNs (PySem.W.isNs_of_in X q5), PySem.W.nsMap_none_of_in X q5 (beq_iff_eq.mp q6), PySem.W.tail_of_in X q4⟩
    · cases q
  · cases q
abbrev veB : List Value := [.type "ValueError", .type "Exception", .type "BaseException", .type "object"]
structure Err (K : PySem.W.Frag) (mg : Str → Option Value) (x : Str) (C : Addr) : Prop where
  mg : mg x = some (.ref C)
  ex : PySem.W.excIn K C veB "ValueError.__new__" = true
section
variable {X : Cx}
theorem ps_raise {x : Str} {C : Addr} {E : XK} {e : Expr} {te : TE} {np cpos pos : Pos} (R : Raises X E) (hc : X.calm = true) (c : Err X.K X.mg x C) (he : PE X e te) (hg : Gl X x := by rfl)
    (hs : starEach [e] X.env = (false, eval e X.env) :: starEach [] X.env := by rfl) (hd : (x == ("__debug__" : Str)) = false := by decide) :
    PS X (.Raise (some (.Call (.Name x np) [e] [] cpos)) none pos) (fun _ σ H => te σ H fun _ H1 => E (.ref C) none H1) := by
  intro pins s σ H D I h
  obtain ⟨bm, N, nm, qn, bs, hdct, sn, sub, ab, col, dd, k0, k1, k2, k3, k5, mN, hC, hN, hni, T⟩ := exc_obj I.ok.mod.kin c.ex
  refine wpAny_Raise_call_subT (C := C) (nm := nm) (q := qn) (N := N) (bs := bs) (bm := bm) (hdct := hdct) (sn := sn) (sub := sub) (ab := ab) (col := col) (dd := dd) (k0 := k0) (k1 := k1) (k2 := k2) (k3 := k3) (k5 := k5)
    PySem.F.excBase_ValueError (mN := mN) (T.hasType PySem.F.excBase_ValueError.hasBase) (I.ok.hd hc) (by rw [hs]; rfl) hni (ld_glob I hg c.mg ⟨rfl, ?_⟩ hd)
  rw [hs]
  refine Calls.evalArgs_plain (Calls.spliced_cons (thn (he pins s σ H _ I h) fun v s1 ⟨x, H1, I1, rx, q⟩ => Calls.spliced_nil ?_))
  exact ⟨rfl, (by show 1 ≤ sizeLine; decide), I1.kIn _ _ hC, hN.keeps I1.bk, T.keeps I1.bk, fun h' e' hm => R pins σ H1 s1 h' e' C _ I1 hm q⟩
end
section
variable {P : Program} {w : World} {K : PySem.W.Frag} {mg : Str → Option Value} {base : Heap}
theorem FnOk.lift {k : Nat} {f : Addr} {fd : FuncData} {ps : List Str} {sp : Sp} {CX : CXT} (F : FnOk P w K mg base CX0 k f fd ps sp) : FnOk P w K mg base CX k f fd ps sp :=
  ⟨F.len, fun A outer s H args us vs Q E hr e0 hb hv hs => codeAny_mono (F.run A outer s H args us vs Q E hr e0 hb hv hs) fun r s' h => by
    cases r with
    | error e => exact (show False from h).elim
    | ok v => cases v <;> exact h⟩
theorem FnOk.or {k : Nat} {f : Addr} {fd : FuncData} {ps : List Str} {sp sp' : Sp} {CX : CXT} (F : FnOk P w K mg base CX k f fd ps sp) (G : FnOk P w K mg base CX k f fd ps sp') : FnOk P w K mg base CX k f fd ps (fun vs H Q E => sp vs H Q E ∨ sp' vs H Q E) :=
  ⟨fun vs H Q E h => h.elim (F.len vs H Q E) (G.len vs H Q E), fun A outer s H args us vs Q E hr e0 hb hv hs => hs.elim (F.run A outer s H args us vs Q E hr e0 hb hv) (G.run A outer s H args us vs Q E hr e0 hb hv)⟩
theorem Fun.okx {x qual : Str} {st : Stmt} {f : Addr} {fd : FuncData} {N ps : List Str} {k : Nat} {sp : Sp} (F : Fun K x qual st f fd) (S : FnScope N ps (defScope st)) (len : ∀ vs H Q E, sp vs H Q E → vs.length = ps.length)
    (hbody : ∀ (cdv : Value) (A : Around) (outer : List Env) (s : Shared) (H : Hp) (vs : List V) (Q : VK) (E : XK), Room k (A.deeper (envOfC qual (defScope st) s.heap.objs.size f cdv)) → sp vs H Q E →
      ∃ t, PSs (cxOf (CX1 P w) P w K mg base N qual (defScope st) f cdv A outer s H E) (defBody st) t ∧ t { nx := fun _ H' => Q .non H', rt := Q } (start N vs) H) : FnOk P w K mg base (CX1 P w) (k + 1) f fd ps sp := by
  obtain ⟨oc, od, kV, doc, pm, an, cdv, ct, osl, rfl, lk, hcd⟩ := F.ex
  exact fn_of lk hcd S len fun A outer s H vs Q E hr hsp => hbody cdv A outer s H vs Q E hr hsp
def CalX (P : Program) (w : World) (K : PySem.W.Frag) (mg : Str → Option Value) (base : Heap) (x : Str) (k : Nat) (ps : List Str) (sp : Sp) : Prop :=
  ∃ (f : Addr) (fd : FuncData), mg x = some (.ref f) ∧ PySem.W.keepIn K (.ref f) = true ∧ Binds K fd ps [] ∧ FnOk P w K mg base (CX1 P w) k f fd ps sp
end
section
variable {X : Cx} {x : Str} {k : Nat} {ps : List Str} {sp : Sp} {e : Expr} {es : List Expr} {t : TA} {p pos : Pos} {E : XK}
theorem pe_calx (c : CalX X.prog X.w X.K X.mg X.base x k ps sp) (hr : Room k X.A) (hx : Passes (CX1 X.prog X.w) X E) (ha : PA X (e :: es) t) (hg : Gl X x := by rfl) (hdb : (x == ("__debug__" : Str)) = false := by decide)
    (he : starEach (e :: es) X.env = (false, eval e X.env) :: starEach es X.env := by rfl) (hpl : (backTo pos (starEach es X.env)).any (·.1) = false := by rfl) : PE X (.Call (.Name x p) (e :: es) [] pos) (tCall sp [] E t) := by
  obtain ⟨f, fd, h1, h2, h3, h4⟩ := c
  exact pe_call h4 hr hg h1 h2 h3 .nil hx ha hdb he hpl
end
end L2
namespace L2
open PySem PySem.Spec PyProof.Rows
theorem ObjOk.get {P : Program} {w : World} {H : Hp} {h : Heap} {a : Addr} {o : HO} (x : ObjOk P w H h a o) : ∃ u, h.get? a = some u := by
  cases o with
  | lst xs => obtain ⟨_, _, _, _, e⟩ := x; exact ⟨_, e⟩
  | tup xs => obtain ⟨_, _, _, ob, e, _⟩ := x; exact ⟨_, e⟩
  | dK kvs => obtain ⟨_, _, _, _, o, _, _, e, _⟩ := x; exact ⟨_, e⟩
  | dT kvs => obtain ⟨_, _, _, _, o, _, _, e, _⟩ := x; exact ⟨_, e⟩
  | set S n => obtain ⟨o, _, _, _, e, _⟩ := x; exact ⟨_, e⟩
  | ins C dx fs => obtain ⟨_, _, _, e, _⟩ := x; exact ⟨_, e⟩
  | own y => obtain ⟨_, e⟩ := x; exact ⟨_, e⟩
  | xd fs => obtain ⟨_, ⟨_, _, _, e, _⟩, _⟩ := x; exact ⟨_, e⟩
  | rng lo hi => obtain ⟨_, _, _, e⟩ := x; exact ⟨_, e⟩
  | frz ob u => obtain ⟨e, _⟩ := x; exact ⟨_, e⟩
  | tbl ps => exact ⟨_, show h.get? a = some _ from x⟩
  | met f y => exact ⟨_, show h.get? a = some _ from x⟩
  | ext φ => obtain ⟨_, ⟨_, e⟩, _⟩ := x; exact ⟨_, e⟩
def ExcO (a C : Addr) : HO := .ext fun h => ∃ oe vs, h.get? a = some oe ∧ oe.cls = .ref C ∧ oe.data = .fields vs
section
variable {X : Cx} {pins : List (Addr × Obj)} {σ : St} {H H' : Hp} {s s' : Shared}
theorem gone_ok {M : Model} {A : Around} {E : Value → Shared → Prop} {i : Nat} {n : Str} {pos : Pos} {Q : Unit → Shared → Prop} (I : Inv X pins σ H s) (hN : X.N.Nodup) (hi : X.N[i]? = some n) (hk : X.env.kindOf n = some .local)
    (h : ∀ s', Inv X pins (σ.set i none) H s' → Q () s') : wpAny M A (do bindName X.env n .none; unbindBehindTheSuite X.env n pos) Q E s := by
  obtain ⟨m, hn, hl⟩ := id I.loc
  have hcls : (X.env.scope.kind == .class || (X.env.scope.kind == .module && X.env.locals != X.env.globals)) = false := by rw [I.ok.kind]; rfl
  have hiσ : i < σ.length := by rw [I.len]; exact (List.getElem?_eq_some_iff.mp hi).1
  have cne := I.cne
  refine wpAny_nameGoes_keeps hk hn hcls fun h' v hn' hs => h _ ?_
  obtain ⟨oL, _, _, hoL, _⟩ := id hn
  have low : ∀ b o, X.s₀.heap.get? b = some o → b ≠ X.env.locals := fun b o e => Nat.ne_of_lt (Nat.lt_of_lt_of_le (Heap.lt_size e) I.ok.above)
  refine ⟨I.ok, I.os, I.bare, ⟨fun b o e n hb hx => ?_, fun b o e n hb hx => ?_, I.base.free, fun b o e hx => ?_, I.base.tups, I.base.frzs, I.base.tbls⟩, ⟨_, hn', fun j y v' e1 e2 e3 => ?_⟩, fun y c e => ?_, I.free, I.freeC, fun p hp => ?_, fun b ob e => ?_, by simpa using I.len⟩
  · exact (hs.2 b (low b o e)).trans (I.base.keep b o e n hb hx)
  · obtain ⟨sl, e1⟩ := I.base.slot b o e n hb hx
    exact ⟨sl, (hs.2 b (low b o e)).trans e1⟩
  · obtain ⟨o', e1⟩ := I.base.there b o e hx
    exact ⟨o', (hs.2 b (low b o e)).trans e1⟩
  · by_cases hj : j = i
    · subst hj
      rw [List.getElem?_set_self hiσ] at e2
      cases e2
    · rw [List.getElem?_set_ne (Ne.symm hj)] at e2
      obtain ⟨u', r', q⟩ := hl j y v' e1 e2 e3
      refine ⟨u', r', ?_⟩
      rcases q with ⟨k, e⟩ | ⟨k, c, e, z⟩
      · refine .inl ⟨k, ?_⟩
        have : y ≠ n := fun e => hj (nodup_ix hN e1 (e ▸ hi))
        simp [this, e]
      · exact .inr ⟨k, c, e, z.sameBut hs (cne y c e)⟩
  · obtain ⟨w', z⟩ := I.cell y c e
    exact ⟨w', z.sameBut hs (cne y c e)⟩
  · obtain ⟨e, n, ne, nf, d⟩ := I.pin p hp
    exact ⟨(hs.2 p.1 ne).trans e, n, ne, nf, d⟩
  · refine (I.hok b ob e).stay (fun c w' hc q => (hs.2 c ?_).trans q) (fun _ q => q) fun _ _ q => q
    rintro rfl
    rcases hc with rfl | hc
    · rw [I.free] at e; cases e
    · rw [I.free] at hc; cases hc
abbrev Cx.marked (X : Cx) (a : Addr) : Cx := { X with A := X.A.mark (some (.ref a)), calm := false, xe := fun _ _ => False }
theorem Inv.mark (I : Inv X pins σ H s) (a : Addr) : Inv (X.marked a) pins σ H s :=
  ⟨⟨I.ok.mod, I.ok.kind, I.ok.glob, I.ok.blt, I.ok.above, I.ok.inj, I.ok.has, I.ok.cab, (fun z => nomatch z), I.ok.frames, I.ok.stk, I.ok.exf, I.ok.bs, I.ok.bsz, I.ok.noex, I.ok.exfs, I.ok.funs, I.ok.frf⟩, I.os, I.bare, I.base, I.loc, I.cell, I.free, I.freeC, I.pin, I.hok, I.len⟩
theorem Inv.unmark {a : Addr} (ok : X.Ok) (I : Inv (X.marked a) pins σ H s) : Inv X pins σ H s :=
  ⟨ok, I.os, I.bare, I.base, I.loc, I.cell, I.free, I.freeC, I.pin, I.hok, I.len⟩
theorem Inv.trackNew {a : Addr} {o : HO} (I : Inv X pins σ H s) (hn : H a = none) (h0 : X.s₀.heap.get? a = none) (hL : a ≠ X.env.locals) (hc : ∀ x c, X.env.cells.lookup x = some c → c ≠ a) (hp : ∀ p ∈ X.pn ++ pins, p.1 ≠ a) (new : ObjOk X.prog X.w (upd H a o) s.heap a o) :
    Inv X pins σ (upd H a o) s := by
  refine ⟨I.ok, I.os, I.bare, ⟨I.base.keep, I.base.slot, fun b o' e n hx => ?_, I.base.there, fun b xs e => ?_, fun b o' u e => ?_, fun b ps e => ?_⟩, I.loc, I.cell, ?_, fun x c e => ?_, fun p hq => ?_, I.hok.track hn new, I.len⟩
  · rw [upd_ne (fun z => by rw [z, h0] at e; cases e)]; exact I.base.free b o' e n hx
  · have := I.base.tups b xs e
    rw [upd_ne (ne_of_none this hn)]; exact this
  · have := I.base.frzs b o' u e
    rw [upd_ne (ne_of_none this hn)]; exact this
  · obtain ⟨m, this⟩ := I.base.tbls b ps e
    exact ⟨m, by rw [upd_ne (ne_of_none this hn)]; exact this⟩
  · rw [upd_ne (Ne.symm hL)]; exact I.free
  · rw [upd_ne (hc x c e)]; exact I.freeC x c e
  · obtain ⟨e, n, ne, nf, d⟩ := I.pin p hq
    exact ⟨e, by rw [upd_ne (hp p hq)]; exact n, ne, nf, d⟩
end
def PX (X : Cx) (st : List Stmt) (t : XK → TS) : Prop :=
  ∀ (pins : List (Addr × Obj)) (s : Shared) (σ : St) (H : Hp) (D : Ends) (E : XK) (E1 : Value → Shared → Prop), Inv X pins σ H s →
    (∀ (H1 : Hp) (s1 : Shared) (e : Value) (s' : Shared), Inv X pins σ H1 s1 → CX1 X.prog X.w X.stack H1 s1 E e s' → E1 e s') → t E D σ H → wpAny (model X.prog X.w) X.A (execs st X.env) (SP X pins D) E1 s
section
variable {X : Cx} {x : Str} {k : Nat} {ps : List Str} {sp : Sp} {e : Expr} {es : List Expr} {t : TA} {p pos : Pos}
theorem PA.any (h : PA X.nox es t) (E1 : Value → Shared → Prop) : PA (X.wish E1) es t := fun pos pins s σ H Q I hw =>
  wpAny_mono (h pos pins s σ H Q (I.unwish.wish _) hw) (fun _ _ ⟨v, H', I', r, q⟩ => ⟨v, H', I'.unwish.wish E1, r, q⟩) fun _ _ z => False.elim z
theorem call_at {pins : List (Addr × Obj)} {σ : St} {H : Hp} {s : Shared} {Q : VK} {E : XK} {E1 : Value → Shared → Prop} (c : CalX X.prog X.w X.K X.mg X.base x k ps sp) (hr : Room k X.A) (ha : PA X.nox (e :: es) t) (I : Inv X pins σ H s)
    (hx : ∀ (H1 : Hp) (s1 : Shared) (e : Value) (s' : Shared), Inv X pins σ H1 s1 → CX1 X.prog X.w X.stack H1 s1 E e s' → E1 e s') (h : tCall sp [] E t σ H Q) (hg : Gl X x) (hdb : (x == ("__debug__" : Str)) = false)
    (he : starEach (e :: es) X.env = (false, eval e X.env) :: starEach es X.env) (hpl : (backTo pos (starEach es X.env)).any (·.1) = false) :
    wpAny (model X.prog X.w) X.A (eval (.Call (.Name x p) (e :: es) [] pos) X.env) (EP X pins σ Q) E1 s := by
  obtain ⟨f, fd, h1, h2, h3, h4⟩ := c
  have Iw : Inv (X.wish E1) pins σ H s := I.wish E1
  refine wpAny_Call_Name_kw (ld_glob (E := E1) I hg h1 ?_ hdb)
  refine PySem.W.callWith_K (h₀ := X.base) I.ok.mod.kin h2 (thn ((PA.any ha E1) pos pins s σ H _ Iw h) fun us s1 ⟨vs, H1, I1, r, q⟩ => ⟨I1.kIn, ?_⟩) he hpl
  have I1' : Inv X pins σ H1 s1 := I1.unwish
  have r2 : Vals (vs ++ []) us := by rw [List.append_nil]; exact r
  have hl : (us ++ []).length = ps.length := by rw [List.append_nil, ← r2.length]; exact h4.len _ _ _ _ q
  have hb := h3 s1 us I1'.kIn hl
  rw [List.append_nil] at hb
  refine wpAny_call (codeAny_mono (h4.run X.A X.stack s1 H1 ⟨us, []⟩ us (vs ++ []) Q E hr I1'.env0 hb r2 q) fun rr s' hq => ?_)
  cases rr with
  | error e => exact hx H1 s1 e s' I1' hq
  | ok fl =>
    cases fl with
    | ret u => exact I1'.after hq
    | next => exact False.elim hq
    | brk => exact False.elim hq
    | cont => exact False.elim hq
theorem px_set {i : Nat} {y : Str} {py sp' : Pos} (c : CalX X.prog X.w X.K X.mg X.base x k ps sp) (hr : Room k X.A) (hN : X.N.Nodup) (hi : X.N[i]? = some y) (hy : Loc X.env.scope y) (ha : PA X.nox (e :: es) t) (hg : Gl X x := by rfl) (hdb : (x == ("__debug__" : Str)) = false := by decide)
    (he : starEach (e :: es) X.env = (false, eval e X.env) :: starEach es X.env := by rfl) (hpl : (backTo pos (starEach es X.env)).any (·.1) = false := by rfl)
    (hs : swapsWith (.Call (.Name x p) (e :: es) [] pos) (some (.Name y py)) sp'.line X.env = pure false := by rfl) (hf : X.fn y = true ∨ X.env.scope.names.lookup y = some .local := by first | exact .inl rfl | exact .inr rfl | assumption) :
    PX X [.Assign [.Name y py] (.Call (.Name x p) (e :: es) [] pos) sp'] (fun E D σ H => tCall sp [] E t σ H fun v H1 => D.nx (σ.set i (some v)) H1) := by
  intro pins s σ H D E E1 I hx h
  have first : wpAny (model X.prog X.w) X.A (exec (.Assign [.Name y py] (.Call (.Name x p) (e :: es) [] pos) sp') X.env) (SP X pins D) E1 s :=
    wpAny_Assign_Name (thn (call_at c hr ha I hx h hg hdb he hpl) fun v s1 ⟨y', H1, I1, r1, q1⟩ => store_ok I1 hN hi hy r1 (fun s2 I2 => show SP X pins D .next s2 from ⟨_, H1, I2, q1⟩) hf) hs
  refine wpAny_execs_cons (thn first fun f s1 q => ?_)
  cases f with
  | next => exact wpAny_execs_nil q
  | ret v => exact q
  | brk => exact q
  | cont => exact q
end
section
variable {X : Cx}
def tCaught (K : PySem.W.Frag) (T : Addr) (i : Nat) (ts : TS) (D : Ends) (σ : St) : XK := fun c _ H' =>
  ∃ C, c = .ref C ∧ PySem.W.exmOne K (.ref C) (.ref T) = some true ∧ ∀ a, H' a = none → ts { nx := fun σ' H'' => D.nx (σ'.set i none) H'', rt := fun _ _ => False } (σ.set i (some (.ref a))) (upd H' a (ExcO a C))
theorem ps_try {body : List Stmt} {x n : Str} {T : Addr} {i : Nat} {np hp pos : Pos} {b₀ : Stmt} {suite : List Stmt} {tb : XK → TS} {ts : TS} (hb : PX X body tb) (hm : X.mg x = some (.ref T)) (hN : X.N.Nodup) (hi : X.N[i]? = some n) (hk : X.env.kindOf n = some .local)
    (hsu : ∀ a, PSs (X.marked a) (b₀ :: suite) ts) (hst : X.stack = X.env :: X.outer := by rfl) (hfr : X.env.frame = some X.env.locals := by rfl) (hex0 : X.ex = [] := by rfl) (hg : Gl X x := by rfl) (hdb : (x == ("__debug__" : Str)) = false := by decide) (hf : X.fn n = true ∨ X.env.scope.names.lookup n = some .local := by first | exact .inl rfl | exact .inr rfl | assumption) :
    PS X (.Try body [.ExceptHandler (some (.Name x np)) (some n) (b₀ :: suite) hp] [] [] pos) (fun D σ H => tb (tCaught X.K T i ts D σ) D σ H) := by
  intro pins s σ H D I h
  refine wpAny_Try_except (wpAny_mono (hb pins s σ H D _ (fun e s₁ => wpAny (model X.prog X.w) X.A (noteFrame e X.env) (fun _ s₂ => wpAny (model X.prog X.w) X.A (setFlight e none) (fun _ s₃ => wpAny (model X.prog X.w) X.A (handleBy e X.env [.ExceptHandler (some (.Name x np)) (some n) (b₀ :: suite) hp]) (SP X pins D) X.xe s₃) X.xe s₂) X.xe s₁) I (fun H1 s1 e s' I1 hcx => ?_) h) (fun f s1 q => ?_) fun _ _ z => z)
  · obtain ⟨a, t, C, vs, B, H', rfl, os, bare, un, hok, kb, tb', fl, tup, tn, C', hCe, hex, hts⟩ := hcx
    cases hCe
    rw [hst] at un fl kb tb'
    have hframes : X.A.frames = some (X.env :: X.outer) := by rw [← hst]; exact I1.ok.frames
    have plain : ∀ b ∈ frs (X.env :: X.outer), ∀ o, s'.heap.get? b = some o → ∀ vs, o.data ≠ .fields vs := fun b hb o ho => by
      obtain ⟨_, o', ho', hn⟩ := fl.2.2.1.mem hb
      rw [ho] at ho'
      cases ho'
      exact hn
    have notB : B.get? a = none := fl.2.1
    have notF : a ∉ frs (X.env :: X.outer) := fun hm => by
      obtain ⟨oe, ws, he, _, hd, _⟩ := fl.first
      exact plain a hm oe he ws hd
    have new1 : s1.heap.get? a = none := by
      cases q : s1.heap.get? a with
      | none => rfl
      | some o =>
        obtain ⟨o', e'⟩ := tb' a o q notF
        rw [notB] at e'; cases e'
    have new0 : X.s₀.heap.get? a = none := by
      cases q : X.s₀.heap.get? a with
      | none => rfl
      | some o =>
        by_cases hx : a ∈ X.ex
        · rw [hex0] at hx; simp at hx
        · obtain ⟨o', e'⟩ := I1.base.there a o q hx
          rw [new1] at e'; cases e'
    have hHa : H' a = none := by
      cases q : H' a with
      | none => rfl
      | some o => obtain ⟨u, hu⟩ := (hok a o q).get; rw [notB] at hu; cases hu
    refine wpAny_looks_onW hframes hfr fl fun h₄ held₄ up₄ => ?_
    refine wpAny_landsW held₄ fun h₅ fl₅ up₅ => ?_
    have inv : ∀ h, B.StaysIn h → s'.heap.UpToSlots h → Inv X pins σ H' { s' with heap := h } := fun h st up =>
      I1.call' (ch := []) (s' := { s' with heap := h }) os (by rw [hst]; exact un_fly un kb tb' st up plain) (hok.kept st) bare (fun b z => absurd z (by simp))
    have I5 := inv h₅ fl₅.1 (up₄.trans up₅)
    refine wpAny_handleBy_cons (codeAny_handlers_test (ld_glob (X := X.marked a) (E := _) (I5.mark a) hg hm ?_ hdb)) (by intro q; cases q)
    obtain ⟨ob, hob, hobc⟩ := fl₅.there
    have LT : PySem.W.Looks (model X.prog X.w) h₅ (typeOf (.ref a)) (.ref C) := hobc ▸ (PySem.W.Looks.ld hob).andThen .now
    refine PySem.W.exm_one (M := model X.prog X.w) (h := h₅) I5.kIn LT hex _ _ _ _ (fun _ _ q => q) ?_
    refine codeAny_handlers_suite_as ?_
    refine lands_againW fl₅ fun h₆ fl₆ up₆ => ?_
    have I6 := inv h₆ fl₆.1 ((up₄.trans up₅).trans up₆)
    have hLa : a ≠ X.env.locals := fun z => notF (by unfold frs; rw [List.filterMap_cons, hfr]; rw [z]; exact List.mem_cons_self)
    have hca : ∀ y c, X.env.cells.lookup y = some c → c ≠ a := fun y c e z => by
      obtain ⟨v, o, ho, _⟩ := I1.cell y c e
      rw [z, new1] at ho; cases ho
    have hpa : ∀ q ∈ X.pn ++ pins, q.1 ≠ a := fun q hq z => by
      obtain ⟨e, _⟩ := I1.pin q hq
      rw [z, new1] at e; cases e
    obtain ⟨oe, ws, he6, hc6, hd6, _⟩ := fl₆.first
    have I7 : Inv X pins σ (upd H' a (ExcO a C)) { s' with heap := h₆ } := I6.trackNew hHa new0 hLa hca hpa ⟨⟨oe, ws, he6, hc6, hd6⟩, ⟨oe, he6⟩, fun h1 h2 ⟨o1, v1, q1, q2⟩ st => ⟨o1, v1, st o1 q1, q2⟩⟩
    have hts' := hts a hHa
    refine store_ok I7 hN hi (.inl hk) (show RelV (.ref a) (.ref a) from rfl) (fun s2 I8 => ?_) hf
    refine wpAny_mono (hsu a pins s2 _ _ _ (I8.mark a) hts') (fun f s3 q => ?_) fun _ _ z => False.elim z
    cases f with
    | next =>
      obtain ⟨σ', H'', I9, q⟩ := q
      exact gone_ok (I9.unmark I1.ok) hN hi hk fun s4 I10 => show SP X pins D .next s4 from ⟨_, _, I10, q⟩
    | ret v => obtain ⟨_, _, _, _, _, q⟩ := q; exact q.elim
    | brk => obtain ⟨_, _, _, q⟩ := q; exact q.elim
    | cont => obtain ⟨_, _, _, q⟩ := q; exact q.elim
  · cases f with
    | next => exact wpAny_execs_nil q
    | ret v => exact q
    | brk => exact q
    | cont => exact q
end
end L2
namespace L2
open PySem PySem.Spec PyProof.Rows PySem.W PySem.Builtin PySem.Builtin.ObjectAttr PySem.Builtin.Getset_descriptor
section
variable {prog : Program} {w : World} {A : Around} {E : Value → Shared → Prop} {s : Shared} {K : PySem.W.Frag} {a C : Addr}
structure ErrI (K : PySem.W.Frag) (C : Addr) : Prop where
  ga : PySem.W.findIn K (.ref C) "__getattribute__" = some (some (.builtin "BaseException.__getattribute__"))
  hook : PySem.W.findIn K (.ref C) "__getattr__" = some none
  cls : PySem.W.findIn K (.ref C) "__class__" = some (some (.builtin "object.__class__"))
  get : PySem.W.specialIn K (.builtin "object.__class__") "__get__" = some (some (.builtin "getset_descriptor.__get__"))
  tak : PySem.W.takesIn K (.builtin "object.__class__") = some true
  bex : PySem.W.mroIn K C (.type "BaseException") = some true
  obj : PySem.W.mroIn K C (.type "object") = some true
  isc : ∃ oc, K.lookup C = some oc ∧ ∃ cd, oc.data = .cls cd
theorem exc_class_get {tp : Value} {R : Result → Shared → Prop} (X : K.In s.heap) (L0 : PySem.W.Looks (model prog w) s.heap (typeOf (.ref a)) (.ref C)) (hm : PySem.W.mroIn K C (.type "object") = some true)
    (h : R (.ok (.ret (.ref C))) s) : codeAny (model prog w) A (.call (.builtin "getset_descriptor.__get__") ⟨[.builtin "object.__class__", .ref a, tp], []⟩) R s := by
  obtain ⟨hh, g, dr, t, os⟩ := s
  have L1 := looks_mroIn (M := model prog w) X hm
  refine codeAny_call_builtin KF.slot_gs.plain KF.entry_gs (KF.slot_gs.check _ _ _ _ _ _ _ _ KF.type_class (KF.args_gs _ _ _) ?_)
  unfold Builtin.«getset_descriptor.__get__» descrGet
  rw [dga_obj]
  refine wpAny_bind (wpAny_pure ?_)
  unfold descrGetter descrCheckInstance descrNameAndClass isInstance
  simp only [KF.owner_class]
  repeat lk
  refine ⟨Code.quiet_builtin _ (by decide +kernel), codeAny_builtin KF.entry_class ?_⟩
  unfold Builtin.«object.__class__» shownTypeOf
  repeat lk
  exact h
theorem exc_check {M : Model} {nameV : Value} {Q : Unit → Shared → Prop} (X : K.In s.heap) (L0 : PySem.W.Looks M s.heap (typeOf (.ref a)) (.ref C)) (hm : PySem.W.mroIn K C (.type "BaseException") = some true)
    (hq : Q () s) : wpAny M A (checkBuiltinCall "BaseException.__getattribute__" ⟨[.ref a, nameV], []⟩) Q E s := by
  obtain ⟨hh, g, dr, t, os⟩ := s
  have L1 := looks_mroIn (M := M) X hm
  have hk : builtinKind "BaseException.__getattribute__" = some .slot := by decide +kernel
  have hsplit : splitId "BaseException.__getattribute__" = some ("BaseException", "__getattribute__") := by decide +kernel
  have ha := F.args_bexc_ga (.ref a) nameV
  simp only [checkBuiltinCall, hk, hsplit]
  unfold isInstance
  repeat (first | lk | wp_step)
  exact hq
theorem exc_entry {tk : Tok} {Q : Fin → Shared → Prop} (X : K.In s.heap) (L0 : PySem.W.Looks (model prog w) s.heap (typeOf (.ref a)) (.ref C)) (I : ErrI K C) (hq : Q (.done (.ret (.ref C))) s) :
    wpAny (model prog w) A (Builtin.«object.__getattribute__» ⟨[.ref a, .str "__class__" tk], []⟩) Q E s := by
  obtain ⟨hh, g, dr, t, os⟩ := s
  have L1 := looks_findIn (M := model prog w) X I.cls
  have L2 := looks_specialIn (M := model prog w) X I.get
  have L3 := looks_takesIn (M := model prog w) X I.tak
  unfold Builtin.«object.__getattribute__»
  repeat lk
  refine wpAny_run (exc_class_get X L0 I.obj ?_)
  repeat (first | exact hq | lk)
theorem exc_class_attr {Q : Option Value → Shared → Prop} (X : K.In s.heap) (L0 : PySem.W.Looks (model prog w) s.heap (typeOf (.ref a)) (.ref C)) (I : ErrI K C) (h : Q (some (.ref C)) { s with toks := s.toks + 1 }) :
    wpAny (model prog w) A (getAttr? (.ref a) "__class__") Q E s := by
  obtain ⟨hh, g, dr, t, os⟩ := s
  have L1 := looks_findIn (M := model prog w) X I.ga
  have L2 := looks_findIn (M := model prog w) X I.hook
  have hb := PySem.F.attrBase_ValueError.ga.bind (.ref a)
  unfold getAttr? getAttrBy? getAttrBy
  refine wpAny_bind (wpAny_mkText (wpAny_bind (wpAny_attempt (wpAny_holding (wpAny_bind (L0.at (wpAny_bind (L1.at ?_))))))))
  dsimp only
  rw [if_neg (show ¬ ((onTheHeap (Value.ref C) && Value.builtin "BaseException.__getattribute__" == Value.builtin "object.__getattribute__") = true) from by
    rw [show (Value.builtin "BaseException.__getattribute__" == Value.builtin "object.__getattribute__") = false from by decide +kernel, Bool.and_false]; exact Bool.false_ne_true)]
  unfold getAttrByItsOwn hookBefore
  refine wpAny_bind ?_
  rw [if_pos (show onTheHeap (Value.ref C) = true from rfl)]
  refine L2.at ?_
  refine wpAny_bind (wpAny_attempt (wpAny_holding ?_))
  unfold callGetattribute
  rw [if_neg (by simp)]
  unfold boundAndCalled
  rw [hb]
  refine wpAny_bind (wpAny_pure ?_)
  refine wpAny_call (codeAny_call_builtin PySem.F.attrBase_ValueError.ga.plain F.entry_bexc_ga (exc_check X L0 I.bex (exc_entry X L0 I ?_)))
  refine handed_on (M := model prog w) rfl ?_
  exact wpAny_pure h
theorem kitx_exc (I : ErrI K C) : PySem.W.KitX K (.ref a) (.ref C) (fun h => ∃ oe vs, h.get? a = some oe ∧ oe.cls = .ref C ∧ oe.data = .fields vs) where
  ty := fun M h _ ⟨oe, vs, h1, h2, _⟩ => h2 ▸ (PySem.W.Looks.ld h1).andThen .now
  it := fun M h X _ => by
    obtain ⟨oc, h1, cd, h2⟩ := I.isc
    obtain ⟨c1, c2, c3, c4⟩ := oc
    dsimp only at h2
    subst h2
    intro A' Q' E' s' k q
    unfold isType loadHead
    exact wpAny_bind (wpAny_loadPart (k _ _ (X _ _ h1)) (wpAny_pure q))
  ne := fun h tp dd its n sl X htp => by
    obtain ⟨oc, h1, cd, h2⟩ := I.isc
    refine Bool.eq_false_iff.mpr fun q => ?_
    have e : C = tp := Value.ref.inj (beq_iff_eq.mp q)
    subst e
    have z := (X _ _ h1).symm.trans htp
    cases z
    cases h2
  ca := fun {prog w A E Q s} X ⟨oe, vs, h1, h2, _⟩ k => exc_class_attr X (h2 ▸ (PySem.W.Looks.ld h1).andThen .now) I k
end
section
variable {X : Cx}
def rIsiX (K : PySem.W.Frag) : List V → Hp → VK → Prop := fun xs H Q => ∃ a C c u b, xs = [.ref a, c] ∧ ((∃ D, c = .ref D ∧ u = Value.ref D) ∨ (∃ n, c = .ty n ∧ u = Value.type n)) ∧ H a = some (ExcO a C) ∧ ErrI K C ∧ PySem.W.kitOne K (.ref C) u = some b ∧ Q (.bl b) H
theorem call_isiX : CallR X (.builtin "isinstance") (rIsiX X.K) := by
  intro pins s σ H xs us Q I r h
  obtain ⟨a, C, c, u, b, rfl, hc, hH, ei, hk, q⟩ := h
  obtain ⟨u1, u2, rfl, r1, r2⟩ := vals2 r
  cases (show u1 = Value.ref a from r1)
  have e2 : u2 = u := by
    rcases hc with ⟨D, rfl, rfl⟩ | ⟨n, rfl, rfl⟩
    · exact r2
    · exact r2
  subst e2
  have p := (show ObjOk X.prog X.w H s.heap a (ExcO a C) from I.hok a _ hH).1
  exact PySem.W.kia_one (kitx_exc ei) I.kIn p hk (fun z => nomatch z) fun tk => ⟨.bl b, H, I.tok tk, rfl, q⟩
theorem pe_isiX {a b : Expr} {ta : TA} {p pos : Pos} (hm : X.mg "isinstance" = none) (ha : PA X [a, b] ta) (hg : Gl X "isinstance" := by rfl)
    (he : starEach [a, b] X.env = (false, eval a X.env) :: starEach [b] X.env := by rfl) (hpl : (backTo pos (starEach [b] X.env)).any (·.1) = false := by rfl) :
    PE X (.Call (.Name "isinstance" p) [a, b] [] pos) (tCB (rIsiX X.K) ta) := pe_callB call_isiX hg hm boot_isi ha (by decide) (by decide) he hpl
theorem boot_VE : bootBuiltins "ValueError" = some (.type "ValueError") := by decide +kernel
theorem pe_tyVE {p : Pos} (hm : X.mg "ValueError" = none) (hg : Gl X "ValueError" := by rfl) : PE X (.Name "ValueError" p) (tC (.ty "ValueError")) := pe_bltn hg hm boot_VE rfl
end
theorem kit_own {K : PySem.W.Frag} {C D : Addr} {b : Bool} (h1 : PySem.W.isClsIn K D = true) (h2 : PySem.W.typeIn K (.ref D) = some (.type "type")) (h3 : PySem.W.mroIn K C (.ref D) = some b) (hs : C = D → b = true) : PySem.W.kitOne K (.ref C) (.ref D) = some b := by
  unfold PySem.W.kitOne
  by_cases e : C = D
  · rw [if_pos (by rw [e]; exact beq_self_eq_true _), hs e]
  · rw [if_neg (fun q => e (Value.ref.inj (beq_iff_eq.mp q)))]
    unfold PySem.W.kitCls
    dsimp only
    rw [if_pos (by rw [Bool.and_eq_true]; exact ⟨h1, by rw [h2]; exact beq_self_eq_true _⟩)]
    exact h3
theorem kit_ve {K : PySem.W.Frag} {C : Addr} (h3 : PySem.W.mroIn K C (.type "ValueError") = some true) : PySem.W.kitOne K (.ref C) (.type "ValueError") = some true := by
  unfold PySem.W.kitOne
  rw [if_neg (fun q => by cases beq_iff_eq.mp q)]
  unfold PySem.W.kitCls
  dsimp only
  rw [if_pos (by decide +kernel)]
  exact h3
theorem exm_own {K : PySem.W.Frag} {C T : Addr} {b : Bool} (h0 : PySem.W.mroIn K T (.type "BaseException") = some true) (h1 : PySem.W.isClsIn K T = true) (h2 : PySem.W.typeIn K (.ref T) = some (.type "type")) (h3 : PySem.W.mroIn K C (.ref T) = some b) : PySem.W.exmOne K (.ref C) (.ref T) = some b := by
  unfold PySem.W.exmOne
  rw [if_pos (show (PySem.W.subIn K (.ref T) (.type "BaseException") == some true) = true from beq_iff_eq.mpr h0)]
  unfold PySem.W.kitCls
  dsimp only
  rw [if_pos (by rw [Bool.and_eq_true]; exact ⟨h1, by rw [h2]; exact beq_self_eq_true _⟩)]
  exact h3
theorem errI_mk {K : PySem.W.Frag} {C : Addr} (ga : PySem.W.findIn K (.ref C) "__getattribute__" = some (some (.builtin "BaseException.__getattribute__"))) (hook : PySem.W.findIn K (.ref C) "__getattr__" = some none) (cls : PySem.W.findIn K (.ref C) "__class__" = some (some (.builtin "object.__class__")))
    (get : PySem.W.specialIn K (.builtin "object.__class__") "__get__" = some (some (.builtin "getset_descriptor.__get__"))) (tak : PySem.W.takesIn K (.builtin "object.__class__") = some true) (bex : PySem.W.mroIn K C (.type "BaseException") = some true) (obj : PySem.W.mroIn K C (.type "object") = some true) (isc : PySem.W.isClsIn K C = true) : ErrI K C :=
  ⟨ga, hook, cls, get, tak, bex, obj, by
    obtain ⟨cd, h⟩ := Option.isSome_iff_exists.mp (show (PySem.W.clsIn K C).isSome = true from isc)
    unfold PySem.W.clsIn at h
    split at h
    · rename_i ho
      exact ⟨_, ho, _, rfl⟩
    · cases h⟩
structure ErrAll (K : PySem.W.Frag) (mg : Str → Option Value) (T : Addr) (cs : List (Str × Addr)) : Prop where
  top : mg "TurnError" = some (.ref T)
  err : ∀ p ∈ cs, Err K mg p.1 p.2
  inst : ∀ p ∈ cs, ErrI K p.2
  exm : ∀ p ∈ cs, PySem.W.exmOne K (.ref p.2) (.ref T) = some true
  ve : ∀ p ∈ cs, PySem.W.kitOne K (.ref p.2) (.type "ValueError") = some true
  pair : ∀ p ∈ cs, ∀ q ∈ cs, PySem.W.kitOne K (.ref p.2) (.ref q.2) = some (decide (p.1 = q.1))
end L2
namespace L2
open PySem PySem.Spec PyProof.Rows
section
variable {X : Cx}
def rCountV : V → List V → Hp → VK → Prop := fun x vs H Q => ∃ (l : Addr) (ns : List V) (v : V), x = .ref l ∧ vs = [v] ∧ flatV v = true ∧ ns.all flatV = true ∧ H l = some (.lst ns) ∧ Q (.int ((ns.countP fun i => eqV i v : Nat) : Int)) H
theorem mt_countV : MtM X "list.count" rCountV := by
  intro pins s σ H x vs v us Q I rx rv h
  obtain ⟨l, ns, k, rfl, rfl, fk, fl, hH, q⟩ := h
  cases rx
  cases rv with
  | cons rk rr =>
  rename_i u _
  cases rr
  obtain ⟨z, its, n, r, hl, e⟩ := I.lstM hH
  refine call_meets F.slot_list_count ⟨_, e, rfl⟩ F.entry_list_count (F.args_list_count_2 _ _)
    (SeqAt.list_countAt l its.toArray n none #[] u (eqU k)) ⟨e, fun y hy => ?_, ?_⟩
  · exact mem_eqAt rk fk r fl y (by simpa using hy)
  · have cnt : ∀ (ms : List V) (us : List Value), Vals ms us → ms.all flatV = true → us.countP (eqU k) = ms.countP fun i => eqV i k := by
      intro ms
      induction ms with
      | nil => intro us h _; cases h; rfl
      | cons m ms ih =>
        intro us h f
        rw [List.all_cons, Bool.and_eq_true] at f
        cases h with
        | cons h1 h2 => rw [List.countP_cons, List.countP_cons, ih _ h2 f.2, eqU_of h1 f.1]
    rw [show its.toArray.toList.countP (eqU k) = ns.countP fun i => eqV i k from cnt ns its r fl]
    exact ⟨.int _, H, I.tok _, ⟨_, rfl⟩, q⟩
def rIndexV : V → List V → Hp → VK → Prop := fun x vs H Q => ∃ (l : Addr) (ns : List V) (v : V) (j : Nat), x = .ref l ∧ vs = [v] ∧ flatV v = true ∧ ns.all flatV = true ∧ H l = some (.lst ns) ∧ (∃ y, ns[j]? = some y ∧ eqV y v = true) ∧ (∀ i y, i < j → ns[i]? = some y → eqV y v = false) ∧ ns.length ≤ 1000 ∧ Q (.int j) H
theorem mt_indexV : MtM X "list.index" rIndexV := by
  intro pins s σ H x vs v us Q I rx rv h
  obtain ⟨l, ns, k, j, rfl, rfl, fk, fl, hH, ⟨y, hj, hy⟩, hno, hz, q⟩ := h
  cases rx
  cases rv with
  | cons rk rr =>
  rename_i u _
  cases rr
  obtain ⟨z, its, n, r, hl, e⟩ := I.lstM hH
  have hjl : j < ns.length := (List.getElem?_eq_some_iff.mp hj).1
  have hjI : j < its.length := by omega
  have at_ : ∀ m (hm : m < its.length), eqU k its[m] = eqV (ns[m]'(by omega)) k := fun m hm => by
    have e1 : ns[m]? = some (ns[m]'(by omega)) := List.getElem?_eq_getElem (by omega)
    obtain ⟨u1, z1, q1⟩ := r.get e1
    rw [List.getElem?_eq_getElem hm] at z1
    rw [Option.some.inj z1]
    exact eqU_of q1 (List.all_eq_true.mp fl _ (List.getElem_mem _))
  refine call_meets F.slot_list_index ⟨_, e, rfl⟩ F.entry_list_index (F.args_list_index_2 _ _)
    (SeqAt.list_indexAt l its.toArray n none #[] u (eqU k) j (by simpa using hjI) (by omega) ?_ ?_) ⟨e, fun y hy => ?_, ?_⟩
  · have : eqU k its.toArray[j] = _ := at_ j hjI
    rw [this, ← hy, (List.getElem?_eq_some_iff.mp hj).2]
  · intro m hm hmj
    have hm' : m < its.length := by simpa using hm
    have : eqU k its.toArray[m] = _ := at_ m hm'
    rw [this]
    exact hno m _ hmj (List.getElem?_eq_getElem (by omega))
  · exact mem_eqAt rk fk r fl y (by simpa using hy)
  · exact ⟨.int j, H, I.tok _, ⟨_, rfl⟩, q⟩
theorem pe_countV (K : PySem.W.Frag) {o e : Expr} {to : TE} {t : TA} {apos pos : Pos} (ho : PE X o to) (ha : PA X [e] t) (hK : X.K = K := by rfl)
    (hbase : attributeBase o "count" X.env (eval o X.env) = eval o X.env := by rfl)
    (hfew : ((backTo pos (starEach [e] X.env)).all (fun x => !x.1) && (backToKw pos (keywordEach [] X.env)).all (fun x => x.1.isSome)
      && decide ([e].length + ([] : List Keyword).length + (if ([] : List Keyword).isEmpty then 0 else 1) < 30)) = true := by rfl)
    (hline : (apos.endLine == pos.line) = true := by rfl) (hs : starEach [e] X.env = (false, eval e X.env) :: starEach [] X.env := by rfl) (hplain : (backTo pos (starEach [] X.env)).any (·.1) = false := by rfl) :
    PE X (.Call (.Attribute o "count" apos) [e] [] pos) (tBM K "list" rCountV to t) := by
  subst hK
  exact pe_bm PySem.F.plainAttrs_list PySem.F.slot_list_count PySem.F.type_list_count mt_countV ho ha hbase hfew hline hs hplain
theorem pe_indexV (K : PySem.W.Frag) {o e : Expr} {to : TE} {t : TA} {apos pos : Pos} (ho : PE X o to) (ha : PA X [e] t) (hK : X.K = K := by rfl)
    (hbase : attributeBase o "index" X.env (eval o X.env) = eval o X.env := by rfl)
    (hfew : ((backTo pos (starEach [e] X.env)).all (fun x => !x.1) && (backToKw pos (keywordEach [] X.env)).all (fun x => x.1.isSome)
      && decide ([e].length + ([] : List Keyword).length + (if ([] : List Keyword).isEmpty then 0 else 1) < 30)) = true := by rfl)
    (hline : (apos.endLine == pos.line) = true := by rfl) (hs : starEach [e] X.env = (false, eval e X.env) :: starEach [] X.env := by rfl) (hplain : (backTo pos (starEach [] X.env)).any (·.1) = false := by rfl) :
    PE X (.Call (.Attribute o "index" apos) [e] [] pos) (tBM K "list" rIndexV to t) := by
  subst hK
  exact pe_bm PySem.F.plainAttrs_list PySem.F.slot_list_index PySem.F.type_list_index mt_indexV ho ha hbase hfew hline hs hplain
end
def strsOf : List Expr → Option (List Str)
  | [] => some []
  | .Constant (.str i) _ _ :: es => (strsOf es).map (i :: ·)
  | _ :: _ => none
def tStrA (ns : List Str) : TA := fun _ H Q => Q (ns.map V.str) H
def tStrs (ns : List Str) : TE := fun _ H Q => ns.length ≤ sizeLine ∧ ∀ p, H p = none → Q (.ref p) (upd H p (.lst (ns.map V.str)))
theorem starEach_str (i : Str) (j : Nat) (p : Pos) (es : List Expr) (env : Env) : starEach (.Constant (.str i) j p :: es) env = (false, eval (.Constant (.str i) j p) env) :: starEach es env := rfl
theorem pa_strsO {X : Cx} : ∀ (es : List Expr) (ns : List Str), strsOf es = some ns → PA X es (tStrA ns)
  | [], ns, h => by
    have : ns = [] := (Option.some.inj h).symm
    subst this
    exact fun pos pins s σ H Q I h => pa_nil pos pins s σ H Q I h
  | e :: es, ns, h => by
    unfold strsOf at h
    split at h
    · rename_i h0; cases h0
    · rename_i i j p es' heq
      cases heq
      cases ho : strsOf es with
      | none => rw [ho] at h; cases h
      | some ms =>
        rw [ho] at h
        cases h
        exact fun pos pins s σ H Q I h => (pa_cons (te := tC (.str i)) pe_str (pa_strsO es ms ho) (starEach_str i j p es X.env)) pos pins s σ H Q I h
    · cases h
theorem pe_strsO {X : Cx} {pos : Pos} {es : List Expr} (ns : List Str) (h : strsOf es = some ns) : PE X (.List es pos) (tStrs ns) := fun pins s σ H Q I h' => pe_lst (pa_strsO es ns h) pins s σ H Q I (by
  show (ns.map V.str).length ≤ sizeLine ∧ _
  rw [List.length_map]; exact h')
theorem xb_setS {X : Cx} {i : Nat} {y : Str} {es : List Expr} {py lp sp : Pos} (ns : List Str) (h : strsOf es = some ns) (hN : X.N.Nodup) (hi : X.N[i]? = some y) (hy : Loc X.env.scope y) (hs : swapsWith (.List es lp) (some (.Name y py)) sp.line X.env = pure false := by rfl)
    (hf : X.fn y = true ∨ X.env.scope.names.lookup y = some .local := by first | exact .inl rfl | exact .inr rfl | assumption) :
    XPS X (.Assign [.Name y py] (.List es lp) sp) (tAsg (tStrs ns) (gName i)) := ⟨ps_set hN hi hy (pe_strsO ns h) hs hf⟩
def tupsOfE : List Expr → Option (List (List Int))
  | [] => some []
  | .Tuple es _ _ :: r => (litsOf es).bind fun ns => (tupsOfE r).map (ns :: ·)
  | _ :: _ => none
def TupsH (H : Hp) (as : List Addr) (rs : List (List Int)) : Prop := as.length = rs.length ∧ ∀ (j : Nat) (a : Addr) (r : List Int), as[j]? = some a → rs[j]? = some r → H a = some (.tup (r.map V.int))
theorem tups_cons {H : Hp} {a : Addr} {as : List Addr} {r : List Int} {rs : List (List Int)} (h : H a = some (.tup (r.map V.int))) (hr : TupsH H as rs) : TupsH H (a :: as) (r :: rs) := by
  refine ⟨by rw [List.length_cons, List.length_cons, hr.1], fun j b q h1 h2 => ?_⟩
  cases j with
  | zero =>
    rw [List.getElem?_cons_zero] at h1 h2
    cases h1; cases h2
    exact h
  | succ j =>
    rw [List.getElem?_cons_succ] at h1 h2
    exact hr.2 j b q h1 h2
theorem TupsH.keep {H H' : Hp} {as : List Addr} {rs : List (List Int)} (h : TupsH H as rs) (s : Same H H') : TupsH H' as rs := ⟨h.1, fun j a r h1 h2 => s _ _ (h.2 j a r h1 h2)⟩
def tTupsA (rs : List (List Int)) : TA := fun _ H Q => (∀ r ∈ rs, r.length ≤ sizeLine) ∧ ∀ (as : List Addr) (H' : Hp), Same H H' → TupsH H' as rs → (∀ a ∈ as, H a = none) → Q (as.map V.ref) H'
def tTups (rs : List (List Int)) : TE := fun _ H Q => rs.length ≤ sizeLine ∧ (∀ r ∈ rs, r.length ≤ sizeLine) ∧ ∀ (l : Addr) (as : List Addr) (H' : Hp), H l = none → Same H H' → H' l = some (.tup (as.map V.ref)) → TupsH H' as rs → (∀ a ∈ as, H a = none) → Q (.ref l) H'
theorem starEach_tup (es0 : List Expr) (x1) (p : Pos) (es : List Expr) (env : Env) : starEach (.Tuple es0 x1 p :: es) env = (false, eval (.Tuple es0 x1 p) env) :: starEach es env := rfl
theorem pa_tupsO {X : Cx} : ∀ (es : List Expr) (rs : List (List Int)), tupsOfE es = some rs → PA X es (tTupsA rs)
  | [], rs, h => by
    have : rs = [] := (Option.some.inj h).symm
    subst this
    exact fun pos pins s σ H Q I h => pa_nil pos pins s σ H Q I (h.2 [] H (Same.refl H) ⟨rfl, fun j a r h => by simp at h⟩ (fun a h => by simp at h))
  | e :: es, rs, h => by
    unfold tupsOfE at h
    split at h
    · rename_i h0; cases h0
    · rename_i es0 x0 p0 es' heq
      cases heq
      cases ho : litsOf es0 with
      | none => rw [ho] at h; cases h
      | some ns =>
        cases hr : tupsOfE es with
        | none => rw [ho, hr] at h; cases h
        | some ms =>
          rw [ho, hr] at h
          cases h
          refine fun pos pins s σ H Q I h => (pa_cons (te := tLitsT ns) (pe_litsT ns ho) (pa_tupsO es ms hr) (starEach_tup es0 x0 p0 es X.env)) pos pins s σ H Q I ?_
          refine ⟨h.1 ns List.mem_cons_self, fun p hp => ⟨fun r hr => h.1 r (List.mem_cons_of_mem _ hr), fun as H' s' rows fr => ?_⟩⟩
          refine h.2 (p :: as) H' (fun b o e => s' b o (by rw [upd_ne (ne_of_none e hp)]; exact e)) (tups_cons (s' p _ upd_same) rows) (fun b hb => ?_)
          rcases List.mem_cons.mp hb with z | z
          · rw [z]; exact hp
          · have h1 := fr b z
            have hbp : b ≠ p := fun y => by rw [y, upd_same] at h1; cases h1
            rw [upd_ne hbp] at h1; exact h1
    · cases h
theorem pe_tupsO {X : Cx} {x1} {pos : Pos} {es : List Expr} (rs : List (List Int)) (h : tupsOfE es = some rs) : PE X (.Tuple es x1 pos) (tTups rs) := fun pins s σ H Q I h' => pe_tup (pa_tupsO es rs h) pins s σ H Q I (by
  refine ⟨h'.2.1, fun as H' s' rows fr => ⟨by rw [List.length_map, rows.1]; exact h'.1, fun p hp => ?_⟩⟩
  refine h'.2.2 p as _ (s'.free hp) (fun b o e => ?_) upd_same ⟨rows.1, fun j b r h1 h2 => ?_⟩ fr
  · have := s' b o e
    rw [upd_ne (ne_of_none this hp)]; exact this
  · have := rows.2 j b r h1 h2
    rw [upd_ne (ne_of_none this hp)]; exact this)
theorem xb_tupsT {X : Cx} {tg : Expr} {es : List Expr} {x1} {tpos pos : Pos} {body : List Stmt} {g : TG} {tb : TS} (rs : List (List Int)) (h : tupsOfE es = some rs) (hc : X.calm = true) (hp : PassesOwn (model X.prog X.w) X.A X.env X.xe) (hg : PG X tg g) (hb : PSs X body tb)
    (hs : ∀ x, foldedSetIterable (.Tuple es x1 tpos) X.env x = pure x := by intro _; rfl) : XPS X (.For tg (.Tuple es x1 tpos) body [] pos) (tFor (iTup X.K (tTups rs)) g tb) := ⟨ps_for hp hc (pi_tup (pe_tupsO rs h)) hg hb hs⟩
end L2
namespace Mth
theorem right_iff {l m d : Nat} (d1 : 0 < d) : Nat.gcd (d * l) m = d ↔ d ∣ m ∧ Nat.gcd l (m / d) = 1 := by
  constructor
  · intro h
    have hd : d ∣ m := h ▸ Nat.gcd_dvd_right (d * l) m
    refine ⟨hd, ?_⟩
    have e : m = d * (m / d) := (Nat.mul_div_cancel' hd).symm
    have h2 : Nat.gcd (d * l) (d * (m / d)) = d := by rw [← e]; exact h
    rw [Nat.gcd_mul_left] at h2
    exact Nat.eq_of_mul_eq_mul_left d1 (by rw [h2, Nat.mul_one])
  · rintro ⟨hd, h⟩
    have e : m = d * (m / d) := (Nat.mul_div_cancel' hd).symm
    rw [e, Nat.gcd_mul_left, h, Nat.mul_one]
theorem IsLR.first {l m d e : Nat} (h : IsLR l m d) (e1 : 0 < e) (he : Nat.gcd (e * l) m = e) : d ≤ e := Nat.le_of_dvd e1 (h.least e ((right_iff e1).mp he).1 ((right_iff e1).mp he).2)
theorem IsLR.end_ {l m d x : Nat} (hm : 0 < m) (h : IsLR l m d) (hx : x ∣ d) (c : Nat.gcd x l = 1) : x = 1 := by
  have d1 := h.pos hm
  have x1 : 0 < x := Nat.pos_of_dvd_of_pos hx d1
  obtain ⟨b, rfl⟩ := hx
  have b1 : 0 < b := Nat.pos_of_ne_zero fun z => by rw [z, Nat.mul_zero] at d1; omega
  obtain ⟨k, rfl⟩ := h.parts
  have hk : x * b * k / (x * b) = k := Nat.mul_div_cancel_left k d1
  have r := h.rest
  rw [hk] at r
  have e : x * b * k / b = x * k := by
    rw [show x * b * k = b * (x * k) by ac_rfl]
    exact Nat.mul_div_cancel_left _ b1
  have q := h.least b ⟨x * k, by ac_rfl⟩ (by
    rw [e]
    exact Nat.Coprime.mul_right (show Nat.Coprime x l from c).symm r)
  have := Nat.le_of_dvd b1 q
  rcases Nat.lt_or_ge 1 x with z | z
  · have : 2 * b ≤ x * b := Nat.mul_le_mul_right b z
    omega
  · omega
theorem lr_of {l m d r k : Nat} (hm : 0 < m) (e : m = d * r) (c : Nat.gcd l r = 1) (p : d ∣ l ^ k) : IsLR l m d := by
  have d1 : 0 < d := Nat.pos_of_ne_zero fun z => by rw [z, Nat.zero_mul] at e; omega
  refine ⟨⟨r, e⟩, by rw [e, Nat.mul_div_cancel_left r d1]; exact c, fun b hb hc => ?_⟩
  have c2 : Nat.Coprime (l ^ k) (m / b) := Nat.Coprime.pow_left k hc
  have c3 : Nat.Coprime d (m / b) := Nat.Coprime.coprime_dvd_left p c2
  exact c3.dvd_of_dvd_mul_right (by rw [Nat.mul_div_cancel' hb]; exact ⟨r, e⟩)
def num : List (Nat × Nat) → Nat
  | [] => 1
  | (b, e) :: r => b ^ e * num r
theorem num_app : ∀ (a b : List (Nat × Nat)), num (a ++ b) = num a * num b
  | [], b => by rw [List.nil_append]; exact (Nat.one_mul _).symm
  | (x, e) :: a, b => by
    show x ^ e * num (a ++ b) = x ^ e * num a * num b
    rw [num_app a b, Nat.mul_assoc]
theorem num_pos : ∀ (a : List (Nat × Nat)), (∀ x ∈ a, 0 < x.1) → 0 < num a
  | [], _ => Nat.one_pos
  | (x, e) :: a, h => Nat.mul_pos (Nat.pow_pos (h (x, e) List.mem_cons_self)) (num_pos a fun y hy => h y (List.mem_cons_of_mem _ hy))
theorem num_cop {b : Nat} : ∀ (a : List (Nat × Nat)), (∀ x ∈ a, Nat.Coprime b x.1) → Nat.Coprime b (num a)
  | [], _ => Nat.coprime_one_right b
  | (x, e) :: a, h => Nat.Coprime.mul_right (Nat.Coprime.pow_right e (h (x, e) List.mem_cons_self)) (num_cop a fun y hy => h y (List.mem_cons_of_mem _ hy))
def ones (ts : List (Nat × Nat × Nat)) : List (Nat × Nat) := ts.map fun t => (t.1, t.2.1)
def oths (ts : List (Nat × Nat × Nat)) : List (Nat × Nat) := ts.map fun t => (t.1, t.2.2)
def dues (ts : List (Nat × Nat × Nat)) : List (Nat × Nat) := oths (ts.filter fun t => decide (0 < t.2.1))
def rests (ts : List (Nat × Nat × Nat)) : List (Nat × Nat) := oths (ts.filter fun t => !decide (0 < t.2.1))
theorem num_split : ∀ (ts : List (Nat × Nat × Nat)), num (oths ts) = num (dues ts) * num (rests ts)
  | [] => rfl
  | (b, o, t) :: ts => by
    have ih := num_split ts
    unfold dues rests at *
    by_cases h : 0 < o
    · rw [List.filter_cons_of_pos (by simpa using h), List.filter_cons_of_neg (by simp; omega)]
      show b ^ t * num (oths ts) = b ^ t * num (oths _) * num _
      rw [ih, Nat.mul_assoc]
    · rw [List.filter_cons_of_neg (by simpa using h), List.filter_cons_of_pos (by simpa using h)]
      show b ^ t * num (oths ts) = num _ * (b ^ t * num (oths _))
      rw [ih]; ac_rfl
theorem num_due {K : Nat} : ∀ (ts : List (Nat × Nat × Nat)), (∀ t ∈ ts, t.2.2 ≤ K) → num (dues ts) ∣ num (ones ts) ^ K
  | [], _ => Nat.one_dvd _
  | (b, o, t) :: ts, h => by
    have ih := num_due ts fun x hx => h x (List.mem_cons_of_mem _ hx)
    have ht : t ≤ K := h (b, o, t) List.mem_cons_self
    unfold dues at *
    show num _ ∣ (b ^ o * num (ones ts)) ^ K
    rw [Nat.mul_pow]
    by_cases z : 0 < o
    · rw [List.filter_cons_of_pos (by simpa using z)]
      refine Nat.mul_dvd_mul ?_ ih
      rw [← Nat.pow_mul]
      exact Nat.pow_dvd_pow b (Nat.le_trans ht (Nat.le_mul_of_pos_left K z))
    · rw [List.filter_cons_of_neg (by simpa using z)]
      exact Nat.dvd_trans ih (Nat.dvd_mul_left _ _)
theorem cop_rest : ∀ (ts : List (Nat × Nat × Nat)), (ts.map (·.1)).Pairwise Nat.Coprime → Nat.Coprime (num (ones ts)) (num (rests ts))
  | [], _ => Nat.coprime_one_left 1
  | (b, o, t) :: ts, h => by
    rw [List.map_cons, List.pairwise_cons] at h
    have ih := cop_rest ts h.2
    have c1 : Nat.Coprime b (num (rests ts)) := num_cop _ fun x hx => by
      obtain ⟨y, hy, rfl⟩ := List.mem_map.mp hx
      exact h.1 _ (List.mem_map_of_mem ((List.mem_filter.mp hy).1))
    have c2 : Nat.Coprime b (num (ones ts)) := num_cop _ fun x hx => by
      obtain ⟨y, hy, rfl⟩ := List.mem_map.mp hx
      exact h.1 _ (List.mem_map_of_mem hy)
    show Nat.Coprime (b ^ o * num (ones ts)) _
    unfold rests at *
    by_cases z : 0 < o
    · rw [List.filter_cons_of_neg (by simp; omega)]
      exact Nat.Coprime.mul_left (Nat.Coprime.pow_left o c1) ih
    · rw [List.filter_cons_of_pos (by simpa using z)]
      have z0 : o = 0 := by omega
      subst z0
      rw [Nat.pow_zero, Nat.one_mul]
      exact Nat.Coprime.mul_right (Nat.Coprime.pow_right t c2.symm) ih
theorem lr_num {ts : List (Nat × Nat × Nat)} (hp : ∀ t ∈ ts, 0 < t.1) (hc : (ts.map (·.1)).Pairwise Nat.Coprime) {K : Nat} (hK : ∀ t ∈ ts, t.2.2 ≤ K) : IsLR (num (ones ts)) (num (oths ts)) (num (dues ts)) :=
  lr_of (num_pos _ fun x hx => by obtain ⟨y, hy, rfl⟩ := List.mem_map.mp hx; exact hp y hy) (num_split ts) (cop_rest ts hc) (num_due ts hK)
end Mth
namespace L2
open PySem PySem.Spec PyProof.Rows
section
variable {prog : Program} {w : World} {A : Around} {E : Value → Shared → Prop} {s : Shared}
theorem drawL {it t : Addr} {items : Array Value} (hne : t ≠ it) : ∀ (n i : Nat) (s : Shared) (Q : List Value → Shared → Prop), s.heap.IsListIter it t i → s.heap.IsList t items → i + n ≤ items.size →
    (∀ h', h'.IsListIter it t (i + n) → Heap.SameBut it s.heap h' → Q ((items.toList.drop i).take n) { s with heap := h' }) → wpAny (model prog w) A (draw (.ref it) n) Q E s
  | 0, i, s, Q, hit, _, _, hQ => wpAny_pure (by simpa using hQ s.heap hit (Heap.SameBut.refl ..))
  | n + 1, i, s, Q, hit, ht, hle, hQ => by
    have hlt : i < items.size := by omega
    refine wpAny_bind (wpAny_pyNext_list_item hit ht (x := items[i]) (by simp [hlt]) fun h₁ hit₁ hs₁ => ?_)
    refine wpAny_bind (wpAny_holding (drawL hne n (i + 1) _ _ hit₁ (ht.extBut hs₁.extBut hne) (by omega) fun h₂ hit₂ hs₂ => wpAny_pure ?_))
    have hd : items.toList.drop i = items[i] :: items.toList.drop (i + 1) := by simp [List.drop_eq_getElem_cons, hlt]
    have := hQ h₂ (by rw [show i + (n + 1) = i + 1 + n by omega]; exact hit₂) (hs₁.trans hs₂)
    rw [hd, List.take_succ_cons] at this
    exact this
theorem unpackL {t : Addr} {items : Array Value} {Q : List Value → Shared → Prop} (hh : A.handled = none) (ht : s.heap.IsList t items)
    (hQ : ∀ h', Heap.ExtBut s.heap.objs.size s.heap h' → Q items.toList { s with heap := h' }) : wpAny (model prog w) A (unpackItems (.ref t) items.size none) Q E s := by
  have hlt : t ≠ s.heap.objs.size := by obtain ⟨o, ho, _⟩ := ht; exact Nat.ne_of_lt (Heap.lt_size ho)
  unfold unpackItems notIterableAtAll
  refine wpAny_bind (wpAny_bind (wpAny_specialOf ht.typeIs F.slot_list_iter.lookup (wpAny_pure ?_)))
  simp only [Bool.false_eq_true, if_false]
  refine wpAny_bind (wpAny_holding (wpAny_pyIter_list ht ?_))
  refine wpAny_bind (wpAny_holding (drawL hlt items.size 0 _ _ ⟨_, Heap.get?_push_size _ rfl, rfl, rfl⟩ (ht.push _) (by omega) fun h₁ hit₁ hs₁ => ?_))
  have hall : List.take items.size (List.drop 0 items.toList) = items.toList := by
    rw [List.drop_zero]; exact List.take_of_length_le (by simp)
  rw [hall, if_neg (by simp)]
  have ht₁ : h₁.IsList t items := (ht.push _).extBut hs₁.extBut hlt
  refine wpAny_bind (wpAny_holding (wpAny_pyNext_list_end hh hit₁ ht₁ (by simp) fun h₂ he₂ => ?_))
  simp only [Option.isSome_none, Bool.false_eq_true, if_false]
  exact wpAny_pure (hQ h₂ fun b o hb e => he₂ b o hb (hs₁.extBut b o hb (Heap.get?_push_of_some _ e)))
end
section
variable {X : Cx} {pos : Pos}
def gLst (K : PySem.W.Frag) (n : Nat) (t : TGs) : TG := fun v σ H Q => ∃ a xs, v = .ref a ∧ SqL K H a xs ∧ xs.length = n ∧ t xs σ H Q
theorem pg_lst (K : PySem.W.Frag) (n : Nat) {es : List Expr} {k : Nat} {t : TGs} (hc : X.calm = true) (h : PGs X es t) (hK : X.K = K := by rfl)
    (hn : (assignEach es X.env).length = n := by rfl) (hst : (assignEach es X.env).findIdx? (·.1) = none := by rfl) : PG X (.Tuple es k pos) (gLst K n t) := by
  subst hK
  intro pins s σ H v u Q I r hw
  obtain ⟨a, xs, e1, hq, hl, hw⟩ := hw
  subst e1
  cases r
  obtain ⟨its, rv, p, hz⟩ := I.list hq
  rw [assign_Tuple]
  refine wpAny_bind (wpAny_standAt ?_)
  unfold unpack
  rw [show (assignEach es X.env).length = its.toArray.size by simp [hn, ← hl, rv.length], hst]
  refine wpAny_bind (wpAny_holding (unpackL (I.ok.hd hc) p.isList fun h' hx => ?_))
  have I1 : Inv X pins σ H { s with heap := h' } := I.kept (t' := s.toks) fun b o e => hx b o (Nat.ne_of_lt (Heap.lt_size e)) e
  exact h pins _ σ H xs _ Q I1 (by simpa using rv) hw
end
end L2
namespace My
open PySem L2 Mth
def top (i : Nat) : Stmt := PySem.Challenge.pw_turnroots_k13_least_right.main.body.getD i (.Pass ⟨0, 0, 0, 0⟩)
abbrev s_is_whole : Stmt := top 13
abbrev s_must_be_from_one : Stmt := top 14
abbrev s_greatest_part : Stmt := top 15
abbrev s_least_right : Stmt := top 17
abbrev s_law_cell_at : Stmt := top 19
abbrev s_law_stir : Stmt := top 20
abbrev s_law_deck : Stmt := top 21
abbrev s_law_next : Stmt := top 22
abbrev s_law_word : Stmt := top 23
abbrev s_law_asked : Stmt := top 24
abbrev s_law_drawn : Stmt := top 25
abbrev s_law_number : Stmt := top 26
abbrev s_law_parts_both : Stmt := top 27
abbrev s_law_tried : Stmt := top 28
abbrev s_law_shared : Stmt := top 29
abbrev s_law_fits : Stmt := top 30
abbrev s_law_great_right : Stmt := top 31
abbrev s_law : Stmt := top 32
end My
namespace My
open PySem L2 Mth
structure Bl (mg : Str → Option Value) : Prop where
  len : mg "len" = none
  isi : mg "isinstance" = none
  int : mg "int" = none
  bool : mg "bool" = none
  list : mg "list" = none
  range : mg "range" = none
  sum : mg "sum" = none
  min : mg "min" = none
  max : mg "max" = none
  enum : mg "enumerate" = none
  zip : mg "zip" = none
  sorted : mg "sorted" = none
  tuple : mg "tuple" = none
  str : mg "str" = none
  repr : mg "repr" = none
  all : mg "all" = none
  any : mg "any" = none
  set : mg "set" = none
  dict : mg "dict" = none
  ve : mg "ValueError" = none
section
variable {P : Program} {w : World} {K : PySem.W.Frag} {mg : Str → Option Value} {base : Heap}
def spWhole (K : PySem.W.Frag) : Sp := fun vs H Q _ => ∃ x t b1 b2, vs = [x] ∧ TyOf K H x t ∧ PySem.W.kitOne K t (.type "int") = some b1 ∧ PySem.W.kitOne K t (.type "bool") = some b2 ∧ Q (.bl (b1 && !b2)) H
theorem scWhole : FnScope ["thing"] ["thing"] (defScope s_is_whole) := ⟨rfl, rfl, rfl, by decide +kernel, rfl, by decide +kernel, by decide +kernel⟩
theorem ok_whole {f : Addr} {fd : FuncData} (F : Fun K "is_whole" "is_whole" s_is_whole f fd) (B : Bl mg) : FnOk P w K mg base CX0 1 f fd ["thing"] (spWhole K) := by
  refine F.ok scWhole (fun vs H Q E h => ?_) (fun cdv A outer s H vs Q E hr h => ?_)
  · obtain ⟨x, t, b1, b2, rfl, _⟩ := h
    rfl
  · obtain ⟨x, t, b1, b2, rfl, ty, e1, e2, q⟩ := h
    refine ⟨_, pss_one (ps_ret (pe_and (pe_isi B.isi (pa_cons (pv 0) (pa_cons (pe_tyInt B.int) pa_nil))) (pe_one (pe_not (pe_isi B.isi (pa_cons (pv 0) (pa_cons (pe_tyBool B.bool) pa_nil))))))), ?_⟩
    refine ⟨x, rfl, x, "int", t, b1, rfl, ty, e1, b1, rfl, ?_⟩
    cases b1 with
    | true =>
      refine iteT ⟨x, rfl, x, "bool", t, b2, rfl, ty, e2, b2, rfl, ?_⟩
      exact q
    | false => exact iteF q
end
end My
namespace My
open PySem L2 Mth
section
variable {P : Program} {w : World} {K : PySem.W.Frag} {mg : Str → Option Value} {base : Heap}
end
end My
namespace My
open PySem L2 Mth
section
variable {P : Program} {w : World} {K : PySem.W.Frag} {mg : Str → Option Value} {base : Heap}
end
end My
namespace My
open PySem L2 Mth
section
variable {P : Program} {w : World} {K : PySem.W.Frag} {mg : Str → Option Value} {base : Heap}
def spGcd : Sp := fun vs H Q _ => ∃ (x y : Nat), vs = [.int (x : Int), .int (y : Int)] ∧ Q (.int (Nat.gcd x y : Nat)) H
theorem scGcd : FnScope ["a", "b", "rest"] ["a", "b"] (defScope s_greatest_part) := ⟨rfl, rfl, rfl, by decide +kernel, rfl, by decide +kernel, by decide +kernel⟩
def secondOf (σ : St) : Nat := match σ[1]? with
  | some (some (V.int i)) => i.toNat
  | _ => 0
theorem ok_gcd {f : Addr} {fd : FuncData} (F : Fun K "greatest_part" "greatest_part" s_greatest_part f fd) : FnOk P w K mg base CX0 1 f fd ["a", "b"] spGcd := by
  refine F.ok scGcd (fun vs H Q E h => ?_) (fun cdv A outer s H vs Q E hr h => ?_)
  · obtain ⟨x, y, rfl, _⟩ := h
    rfl
  · obtain ⟨x, y, rfl, q⟩ := h
    refine ⟨_, pss_cons (ps_while PassesOwn.never (pt_cmpR op_ne (pv 1) pe_int (nomark _))
        (pss_cons (ps_set (i := 2) scGcd.nd rfl (Or.inl rfl) (pe_op op_mod (pv 0) (pv 1))) (pss_cons (ps_set (i := 0) scGcd.nd rfl (Or.inl rfl) (pv 1)) (pss_one (ps_set (i := 1) scGcd.nd rfl (Or.inl rfl) (pv 2))))))
      (pss_one (ps_ret (pv 0))), ?_⟩
    refine while_by (fun σ H2 => ∃ (a b : Nat) (v : Option V), σ = [some (.int (a : Int)), some (.int (b : Int)), v] ∧ Nat.gcd a b = Nat.gcd x y ∧ H2 = H) (fun σ _ => secondOf σ) ⟨x, y, none, rfl, rfl, rfl⟩ ?_ ?_
    · rintro σ H2 ⟨a, b, v, rfl, hg, rfl⟩
      refine ⟨_, rfl, rfl, _, rfl, ?_⟩
      by_cases hb : b = 0
      · subst hb
        refine iteNS (by rfl) ?_
        refine ⟨_, rfl, ?_⟩
        rw [Nat.gcd_zero_right] at hg
        rw [hg]
        exact q
      · have hb' : ¬ V.int (b : Int) = V.int 0 := fun z => hb (by have := V.int.inj z; omega)
        rw [decide_eq_false hb']
        refine iteT ?_
        refine ⟨_, rfl, _, rfl, _, _, rfl, rfl, (by show (0 : Int) < (b : Int); omega), _, rfl, _, rfl, ⟨b, a % b, some (.int ((a : Int) % (b : Int))), ?_, ?_, rfl⟩, ?_⟩
        · rw [Int.natCast_emod]; rfl
        · rw [← hg, Nat.gcd_comm a b, Nat.gcd_rec b a, Nat.gcd_comm]
        · show ((a : Int) % (b : Int)).toNat < ((b : Int)).toNat
          have := Int.emod_lt_of_pos (a : Int) (show (0 : Int) < (b : Int) by omega)
          have := Int.emod_nonneg (a : Int) (show (b : Int) ≠ 0 by omega)
          omega
    · rintro σ H2 Q Q' hq ⟨v, hv, e1, k1, e2, e3⟩
      exact ⟨v, hv, e1, k1, e2, hq _ _ e3⟩
end
end My
namespace My
open PySem L2 Mth
section
variable {P : Program} {w : World} {K : PySem.W.Frag} {mg : Str → Option Value} {base : Heap}
def spOne : Sp := fun vs H Q _ => ∃ (n : Int), vs = [.int n] ∧ 1 ≤ n ∧ Q .non H
theorem scOne : FnScope ["number"] ["number"] (defScope s_must_be_from_one) := ⟨rfl, rfl, rfl, by decide +kernel, rfl, by decide +kernel, by decide +kernel⟩
theorem ok_one {f : Addr} {fd : FuncData} (F : Fun K "must_be_from_one" "must_be_from_one" s_must_be_from_one f fd) (cW : Cal P w K mg base "is_whole" 1 ["thing"] (spWhole K)) : FnOk P w K mg base CX0 2 f fd ["number"] spOne := by
  refine F.ok scOne (fun vs H Q E h => ?_) (fun cdv A outer s H vs Q E hr h => ?_)
  · obtain ⟨n, rfl, _⟩ := h
    rfl
  · obtain ⟨n, rfl, h1, q⟩ := h
    have hr1 : Room 1 _ := hr.mono (by decide)
    refine ⟨_, pss_one (ps_if (pw_or (pt_not (pt_val (pe_cal cW hr1 (pa_cons (pv 0) pa_nil)))) (pw_or1 (pt_cmpR op_lt (pv 0) pe_int (nomark _)))).pt (pss_one ps_never) pss_nil), ?_⟩
    refine ⟨_, rfl, .int n, _, true, false, rfl, .int n, kit_same K "int", kit_int_bool K, true, rfl, ?_⟩
    refine iteF ⟨_, rfl, _, _, rfl, rfl, _, rfl, ?_⟩
    rw [decide_eq_false (show ¬ n < 1 by omega)]
    exact iteF q
def spLR : Sp := fun vs H Q _ => ∃ (l m : Nat), vs = [.int (l : Int), .int (m : Int)] ∧ 1 ≤ l ∧ l ≤ 1000000000000000000000000000000 ∧ 1 ≤ m ∧ m ≤ 1000000000000000000000000000000 ∧ ∀ d, IsLR l m d → Q (.int ((d : Nat) : Int)) H
theorem scLR : FnScope ["l", "m", "least", "common"] ["l", "m"] (defScope s_least_right) := ⟨rfl, rfl, rfl, by decide +kernel, rfl, by decide +kernel, by decide +kernel⟩
theorem ok_lr {f : Addr} {fd : FuncData} (F : Fun K "least_right" "least_right" s_least_right f fd) (c1 : Cal P w K mg base "must_be_from_one" 2 ["number"] spOne) (cG : Cal P w K mg base "greatest_part" 1 ["a", "b"] spGcd) : FnOk P w K mg base CX0 3 f fd ["l", "m"] spLR := by
  refine F.ok scLR (fun vs H Q E h => ?_) (fun cdv A outer s H vs Q E hr h => ?_)
  · obtain ⟨l, m, rfl, _⟩ := h
    rfl
  · obtain ⟨l, m, rfl, l1, l2, m1, m2, q⟩ := h
    have hr1 : Room 1 _ := hr.mono (by decide)
    refine ⟨_, pss_cons (ps_expr (pe_cal c1 hr (pa_cons (pv 0) pa_nil))) (pss_cons (ps_expr (pe_cal c1 hr (pa_cons (pv 1) pa_nil)))
      (pss_cons (ps_set (i := 2) scLR.nd rfl (Or.inl rfl) pe_int) (pss_cons (ps_set (i := 3) scLR.nd rfl (Or.inl rfl) (pe_cal cG hr1 (pa_cons (pv 0) (pa_cons (pv 1) pa_nil))))
      (pss_cons (ps_while PassesOwn.never (pt_cmpR op_gt (pv 3) pe_int (nomark _))
        (pss_cons (ps_set (i := 2) scLR.nd rfl (Or.inl rfl) (pe_op op_mul (pv 2) (pv 3))) (pss_one (ps_set (i := 3) scLR.nd rfl (Or.inl rfl) (pe_cal cG hr1 (pa_cons (pv 0) (pa_cons (pe_op op_fdivB (pv 1) (pv 2)) pa_nil)))))))
      (pss_one (ps_ret (pv 2))))))), ?_⟩
    refine ⟨_, rfl, (l : Int), rfl, by omega, ?_⟩
    refine ⟨_, rfl, (m : Int), rfl, by omega, ?_⟩
    refine ⟨_, rfl, _, rfl, l, m, rfl, ?_⟩
    refine ⟨fun mm σ H2 => ∃ d : Nat, σ = [some (.int (l : Int)), some (.int (m : Int)), some (.int (d : Int)), some (.int ((Nat.gcd l (m / d) : Nat) : Int))] ∧ LrUp l m d ∧ H2 = H ∧ mm = m - d,
      ⟨m - 1, 1, by rw [Nat.div_one]; rfl, LrUp.start l m, rfl, rfl⟩, ?_⟩
    rintro mm σ H2 ⟨d, rfl, up, rfl, rfl⟩
    have gle : Nat.gcd l (m / d) ≤ l := Nat.gcd_le_left _ l1
    refine ⟨_, rfl, _, _, rfl, rfl, _, rfl, ?_⟩
    refine ite2 (fun hg => ?_) (fun hg => ?_)
    · have hg : (1 : Int) < ((Nat.gcd l (m / d) : Nat) : Int) := of_decide_eq_true hg
      have hg1 : Nat.gcd l (m / d) ≠ 1 := by omega
      obtain ⟨mo1, mo2⟩ := up.more (by omega) hg1
      have up' := up.step (by omega)
      refine ⟨fun σ' H' => ∃ m', m' < m - d ∧ _, fun _ _ h => h, ?_⟩
      have small : d < 18446744073709551616 ∨ Nat.gcd l (m / d) < 18446744073709551616 := by
        rcases Nat.lt_or_ge d 18446744073709551616 with z | z
        · exact .inl z
        · rcases Nat.lt_or_ge (Nat.gcd l (m / d)) 18446744073709551616 with y | y
          · exact .inr y
          · have := Nat.mul_le_mul z y
            omega
      refine ⟨_, rfl, _, rfl, _, _, rfl, rfl, (by rcases small with z | z; exact .inl ⟨by omega, by omega⟩; exact .inr ⟨by omega, by omega⟩), ?_⟩
      have e1 : ((d : Nat) : Int) * ((Nat.gcd l (m / d) : Nat) : Int) = ((d * Nat.gcd l (m / d) : Nat) : Int) := (Int.natCast_mul _ _).symm
      have dp := up'.pos
      refine ⟨_, rfl, _, rfl, _, rfl, _, _, rfl, rfl, ⟨by rw [e1]; omega, by rw [e1]; omega⟩, ?_⟩
      have e2 : (m : Int) / (((d : Nat) : Int) * ((Nat.gcd l (m / d) : Nat) : Int)) = ((m / (d * Nat.gcd l (m / d)) : Nat) : Int) := by rw [e1]; exact (Int.natCast_ediv _ _).symm
      dsimp only
      rw [e2]
      refine ⟨l, m / (d * Nat.gcd l (m / d)), rfl, ?_⟩
      refine ⟨m - d * Nat.gcd l (m / d), by omega, d * Nat.gcd l (m / d), ?_, up', rfl, rfl⟩
      show [some (V.int (l : Int)), some (V.int (m : Int)), some (V.int (((d : Nat) : Int) * ((Nat.gcd l (m / d) : Nat) : Int))), some (V.int ((Nat.gcd l (m / (d * Nat.gcd l (m / d))) : Nat) : Int))] = _
      rw [e1]
    · have hg : ¬ (1 : Int) < ((Nat.gcd l (m / d) : Nat) : Int) := fun z => hg (decide_eq_true z)
      have kp : 0 < m / d := Nat.div_pos (Nat.le_of_dvd (by omega) up.parts) up.pos
      have gp : 0 < Nat.gcd l (m / d) := Nat.gcd_pos_of_pos_right _ kp
      exact ⟨_, rfl, q d (up.done (by omega))⟩
end
end My
namespace My
open PySem L2 Mth
section
variable {P : Program} {w : World} {K : PySem.W.Frag} {mg : Str → Option Value} {base : Heap}
section
variable {X : Cx}
theorem pe_pop {o : Expr} {to : TE} {apos pos : Pos} (ho : PE X o to) (hbase : attributeBase o "pop" X.env (eval o X.env) = eval o X.env := by rfl) (hline : (apos.endLine == pos.line) = true := by rfl) :
    PE X (.Call (.Attribute o "pop" apos) [] [] pos) (tBM0 X.K "list" rPop to) := pe_bm0 PySem.F.plainAttrs_list PySem.F.slot_list_pop PySem.F.type_list_pop mt_pop ho hbase hline
end
def spCell (K : PySem.W.Frag) : Sp := fun vs H Q _ => ∃ (a : Addr) (ns : List Int) (k : Int), vs = [.ref a, .int k] ∧ SqL K H a (ns.map V.int) ∧ 0 ≤ k ∧ ∀ z, Q (.int z) H
theorem scCell : FnScope ["script", "k"] ["script", "k"] (defScope s_law_cell_at) := ⟨rfl, rfl, rfl, by decide +kernel, rfl, by decide +kernel, by decide +kernel⟩
theorem ok_cell {f : Addr} {fd : FuncData} (F : Fun K "_law_cell_at" "_law_cell_at" s_law_cell_at f fd) (B : Bl mg) : FnOk P w K mg base CX0 1 f fd ["script", "k"] (spCell K) := by
  refine F.ok scCell (fun vs H Q E h => ?_) (fun cdv A outer s H vs Q E hr h => ?_)
  · obtain ⟨a, ns, k, rfl, _⟩ := h
    rfl
  · obtain ⟨a, ns, k, rfl, ha, k0, q⟩ := h
    refine ⟨_, pss_cons (ps_if (pt_cmpR op_lt (pv 1) (pe_lenL B.len (pa_cons (pv 0) pa_nil)) (nomark _)) (pss_one (ps_ret (pe_ix ix_list (pv 0) (pv 1) (fun _ _ => rfl)))) pss_nil) (pss_one (ps_ret pe_int)), ?_⟩
    refine ⟨_, rfl, _, rfl, a, _, rfl, .inl ha, _, _, rfl, rfl, _, rfl, ?_⟩
    rw [List.length_map]
    refine ite2 (fun h => ?_) (fun h => q 0)
    have h : k < (ns.length : Int) := of_decide_eq_true h
    exact ⟨_, rfl, _, rfl, a, _, k, _, rfl, rfl, ha, atI_map k0 h, q _⟩
def spStir : Sp := fun vs H Q _ => ∃ (z k : Int), vs = [.int z, .int k] ∧ 0 ≤ k ∧ k ≤ 1000 ∧ ∀ r : Int, 0 ≤ r → Q (.int r) H
theorem scStir : FnScope ["cell", "k", "one"] ["cell", "k"] (defScope s_law_stir) := ⟨rfl, rfl, rfl, by decide +kernel, rfl, by decide +kernel, by decide +kernel⟩
theorem ok_stir {f : Addr} {fd : FuncData} (F : Fun K "_law_stir" "_law_stir" s_law_stir f fd) : FnOk P w K mg base CX0 1 f fd ["cell", "k"] spStir := by
  refine F.ok scStir (fun vs H Q E h => ?_) (fun cdv A outer s H vs Q E hr h => ?_)
  · obtain ⟨z, k, rfl, _⟩ := h
    rfl
  · obtain ⟨z, k, rfl, k0, k1, q⟩ := h
    refine ⟨_, pss_cons (ps_set (i := 2) scStir.nd rfl (Or.inl rfl) (pe_op op_mod (pe_op op_mul (pe_op op_add (pe_op op_add (pe_op op_mod (pv 0) pe_int) (pe_op op_mul pe_int (pv 1))) pe_int) pe_int) pe_int))
      (pss_cons (ps_set (i := 2) scStir.nd rfl (Or.inl rfl) (pe_op op_mod (pe_op op_mul (pv 2) (pv 2)) pe_int))
      (pss_one (ps_ret (pe_op op_fdiv (pe_op op_mod (pe_op op_mul (pe_op op_add (pv 2) (pe_op op_mul pe_int (pv 1))) pe_int) pe_int) pe_int)))), ?_⟩
    have e64 : (2 : Int) ^ 64 = 18446744073709551616 := by decide
    refine ⟨_, rfl, _, _, rfl, rfl, (by show (0 : Int) < 2147483629; decide), _, rfl, _, _, rfl, rfl, .inl ⟨by decide, by decide⟩, _, _, rfl, rfl, _, _, rfl, rfl, _, _, rfl, rfl, .inr ⟨by decide, by decide⟩, _, _, rfl, rfl, (by show (0 : Int) < 2147483647; decide), ?_⟩
    refine ⟨_, rfl, _, rfl, _, _, rfl, rfl, .inl ⟨by rw [e64]; omega, by rw [e64]; omega⟩, _, _, rfl, rfl, (by show (0 : Int) < 2147483587; decide), ?_⟩
    refine ⟨_, rfl, _, rfl, _, _, rfl, rfl, .inl ⟨by decide, by decide⟩, _, _, rfl, rfl, _, _, rfl, rfl, .inr ⟨by decide, by decide⟩, _, _, rfl, rfl, (by show (0 : Int) < 2147483563; decide), _, _, rfl, rfl, ⟨by decide, by decide⟩, ?_⟩
    exact q _ (Int.ediv_nonneg (Int.emod_nonneg _ (by decide)) (by decide))
def DeckAt (H : Hp) (a : Addr) : Prop := ∃ ds : List Int, H a = some (.lst (ds.map V.int)) ∧ (∀ x ∈ ds, 0 ≤ x) ∧ ds.length ≤ 1000
def spDeck : Sp := fun vs H Q _ => ∃ (z : Int) (n : Nat), vs = [.int z, .int (n : Int)] ∧ n ≤ 900 ∧ ∀ (l : Addr) (H' : Hp), H l = none → Same H H' → DeckAt H' l → Q (.ref l) H'
theorem scDeck : FnScope ["cell", "many", "found", "digits", "k", "number"] ["cell", "many"] (defScope s_law_deck) := ⟨rfl, rfl, rfl, by decide +kernel, rfl, by decide +kernel, by decide +kernel⟩
theorem ok_deck {f : Addr} {fd : FuncData} (F : Fun K "_law_deck" "_law_deck" s_law_deck f fd) (B : Bl mg) (cS : Cal P w K mg base "_law_stir" 1 ["cell", "k"] spStir) : FnOk P w K mg base CX0 2 f fd ["cell", "many"] spDeck := by
  refine F.ok scDeck (fun vs H Q E h => ?_) (fun cdv A outer s H vs Q E hr h => ?_)
  · obtain ⟨z, n, rfl, _⟩ := h
    rfl
  · obtain ⟨z, n, rfl, n9, q⟩ := h
    refine ⟨_, pss_cons (ps_set (i := 2) scDeck.nd rfl (Or.inl rfl) (pe_lst pa_nil))
      (pss_cons (ps_set (i := 3) scDeck.nd rfl (Or.inl rfl) (pv 0))
      (pss_cons (ps_for PassesOwn.never rfl (pi_range1 (by rfl) B.range (pa_cons (pv 1) pa_nil)) (pg_name (i := 4) scDeck.nd rfl (Or.inl rfl))
        (pss_cons (ps_set (i := 5) scDeck.nd rfl (Or.inl rfl) (pe_cal cS hr (pa_cons (pv 0) (pa_cons (pv 4) pa_nil))))
        (pss_cons (ps_if (pt_cmpR op_ge (pv 0) (pe_op op_pow pe_int pe_int) (nomark _)) (pss_one (ps_set (i := 5) scDeck.nd rfl (Or.inl rfl) (pe_op op_mod (pv 3) pe_int))) pss_nil)
        (pss_cons (ps_set (i := 3) scDeck.nd rfl (Or.inl rfl) (pe_op op_fdiv (pv 3) pe_int))
        (pss_one (ps_expr (pe_append (pv 2) (pa_cons (pv 5) pa_nil))))))))
      (pss_one (ps_ret (pe_rev (pv 2) (po_some (pe_un un_neg pe_int))))))), ?_⟩
    refine ⟨Nat.zero_le _, fun l hl => ?_⟩
    have s1 : Same H (upd H l (.lst [])) := Same.upd_new hl
    have h1l : (upd H l (.lst [])) l = some (.lst []) := upd_same
    generalize (upd H l (.lst [])) = H1 at s1 h1l ⊢
    refine ⟨_, rfl, ?_⟩
    refine ⟨_, rfl, (n : Int), rfl, by omega, by omega, for_range (lo := 0) (n := ((n : Nat) : Int).toNat) (fun i σ H2 => ∃ (ds : List Int) (dg : Int) (v4 v5 : Option V), σ = [some (.int z), some (.int (n : Int)), some (.ref l), some (.int dg), v4, v5] ∧ H2 l = some (.lst (ds.map V.int)) ∧ ds.length = i ∧ (∀ x ∈ ds, 0 ≤ x) ∧ Same H H2)
      ⟨[], z, none, none, rfl, h1l, rfl, fun x hx => by simp at hx, s1⟩ ?_ ?_⟩
    · rintro i σ H2 hi ⟨ds, dg, v4, v5, rfl, h2l, lds, pos, s2⟩
      refine ⟨_, rfl, _, rfl, z, _, rfl, by omega, by omega, fun r r0 => ?_⟩
      have cp : CPow 10 18 := ⟨by decide, by decide, by decide⟩
      refine ⟨_, rfl, _, _, rfl, rfl, cp, _, _, rfl, rfl, _, rfl, ?_⟩
      have fin : ∀ w : Int, 0 ≤ w → ∃ (ds' : List Int) (dg' : Int) (v4 v5 : Option V), [some (V.int z), some (V.int (n : Int)), some (.ref l), some (V.int (dg / 720720)), some (V.int ((0 : Int) + (i : Int))), some (V.int w)] = [some (V.int z), some (V.int (n : Int)), some (.ref l), some (V.int dg'), v4, v5] ∧ (upd H2 l (.lst (ds.map V.int ++ [.int w]))) l = some (.lst (ds'.map V.int)) ∧ ds'.length = i + 1 ∧ (∀ x ∈ ds', 0 ≤ x) ∧ Same H (upd H2 l (.lst (ds.map V.int ++ [.int w]))) := fun w w0 => by
        refine ⟨ds ++ [w], dg / 720720, _, _, rfl, by rw [upd_same, List.map_append]; rfl, by rw [List.length_append, lds]; rfl, fun x hx => ?_, fun b o hb => by rw [upd_ne (ne_of_none hb hl)]; exact s2 b o hb⟩
        rcases List.mem_append.mp hx with y | y
        · exact pos x y
        · have : x = w := by simpa using y
          rw [this]; exact w0
      refine ite2 (fun _ => ?_) (fun _ => ?_)
      · refine ⟨_, rfl, _, _, rfl, rfl, (by show (0 : Int) < 720720; decide), ?_⟩
        refine ⟨_, rfl, _, _, rfl, rfl, ⟨by decide, by decide⟩, ?_⟩
        refine ⟨_, rfl, .inl ⟨rfl, _, SqL.of h2l⟩, _, rfl, l, _, _, rfl, rfl, h2l, small1000 (by rw [List.length_map]; omega), ?_⟩
        exact fin (dg % 720720) (Int.emod_nonneg _ (by decide))
      · refine ⟨_, rfl, _, _, rfl, rfl, ⟨by decide, by decide⟩, ?_⟩
        refine ⟨_, rfl, .inl ⟨rfl, _, SqL.of h2l⟩, _, rfl, l, _, _, rfl, rfl, h2l, small1000 (by rw [List.length_map]; omega), ?_⟩
        exact fin r r0
    · rintro σ H2 ⟨ds, dg, v4, v5, rfl, h2l, lds, pos, s2⟩
      refine ⟨_, rfl, _, rfl, _, rfl, rfl, l, _, rfl, SqL.of h2l, fun o ho => ?_⟩
      refine q o _ (s2.free ho) (s2.upd_r (s2.free ho)) ⟨ds.reverse, by rw [upd_same, List.map_reverse], fun x hx => pos x (List.mem_reverse.mp hx), by rw [List.length_reverse]; omega⟩
def spNext : Sp := fun vs H Q _ => ∃ (a : Addr), vs = [.ref a] ∧ DeckAt H a ∧ ∀ (r : Int) (H' : Hp), 0 ≤ r → DeckAt H' a → KeepBut a H H' → Q (.int r) H'
theorem scNext : FnScope ["deck"] ["deck"] (defScope s_law_next) := ⟨rfl, rfl, rfl, by decide +kernel, rfl, by decide +kernel, by decide +kernel⟩
theorem ok_next {f : Addr} {fd : FuncData} (F : Fun K "_law_next" "_law_next" s_law_next f fd) : FnOk P w K mg base CX0 1 f fd ["deck"] spNext := by
  refine F.ok scNext (fun vs H Q E h => ?_) (fun cdv A outer s H vs Q E hr h => ?_)
  · obtain ⟨a, rfl, _⟩ := h
    rfl
  · obtain ⟨a, rfl, ⟨ds, ha, pos, len⟩, q⟩ := h
    have hu := hu_of hr
    refine ⟨_, pss_cons (ps_if (pt_cmpR (op_eqL 0 hu) (pv 0) (pe_lst pa_nil) (nomark _)) (pss_one (ps_ret pe_int)) pss_nil) (pss_one (ps_ret (pe_pop (pv 0)))), ?_⟩
    refine ⟨_, rfl, Nat.zero_le _, fun e he => ?_⟩
    have nae : a ≠ e := ne_of_none ha he
    have h1a : (upd H e (.lst [])) a = some (.lst (ds.map V.int)) := by rw [upd_ne nae]; exact ha
    have kb : KeepBut a H (upd H e (.lst [])) := fun b o hb _ => by rw [upd_ne (ne_of_none hb he)]; exact hb
    refine ⟨a, e, ds.map V.int, [], _, rfl, rfl, SqL.of h1a, SqL.of upd_same, leq_nil _ _ _ _, _, rfl, ?_⟩
    generalize (upd H e (.lst [])) = H1 at h1a kb ⊢
    cases ds with
    | nil => exact iteT (q 0 H1 (by decide) ⟨[], h1a, pos, len⟩ kb)
    | cons x xs =>
      refine iteF ?_
      have hl : (x :: xs).length - 1 < (x :: xs).length := by simp
      have hg : ((x :: xs).map V.int)[((x :: xs).map V.int).length - 1]? = some (.int (x :: xs)[(x :: xs).length - 1]) := by
        rw [List.length_map, List.getElem?_map, List.getElem?_eq_getElem hl]; rfl
      refine ⟨_, rfl, .inl ⟨rfl, _, SqL.of h1a⟩, a, _, _, rfl, rfl, h1a, hg, ?_⟩
      refine q _ _ (pos _ (List.getElem_mem hl)) ⟨(x :: xs).dropLast, by rw [upd_same, List.map_dropLast], fun y hy => pos y ((List.dropLast_sublist _).mem hy), by rw [List.length_dropLast]; omega⟩ fun b o hb hn => by rw [upd_ne hn]; exact kb b o hb hn
end
end My
namespace My
open PySem L2 Mth
section
variable {P : Program} {w : World} {K : PySem.W.Frag} {mg : Str → Option Value} {base : Heap} {q_TurnError q_NoTurn q_NoFit q_NoRounds q_NoNumber q_NoRoot q_TooMany q_NoKind q_NoText q_NoName q_NoRow : Addr}
def spOneX (q : Addr) : Sp := fun vs H _ E => ∃ (n : Int), vs = [.int n] ∧ n < 1 ∧ E (.ref q) none H
theorem sc_must_be_from_one : FnScope ["number"] ["number"] (defScope s_must_be_from_one) := scOne
theorem okx_must_be_from_one {f : Addr} {fd : FuncData} (F : Fun K "must_be_from_one" "must_be_from_one" s_must_be_from_one f fd) (c_is_whole : Cal P w K mg base "is_whole" 1 ["thing"] (spWhole K)) (e_NoNumber : Err K mg "NoNumber" q_NoNumber) : FnOk P w K mg base (CX1 P w) 2 f fd ["number"] (spOneX q_NoNumber) := by
  refine F.okx sc_must_be_from_one (fun vs H Q E h => ?_) (fun cdv A outer s H vs Q E hr h => ?_)
  · obtain ⟨n, rfl, hn, q⟩ := h
    rfl
  · obtain ⟨n, rfl, hn, q⟩ := h
    have hr_is_whole : Room 1 _ := hr.mono (by decide)
    refine ⟨_, pss_one (ps_if (pw_or (pt_not (pt_val (pe_cal c_is_whole hr_is_whole (pa_cons (pv 0) pa_nil)))) (pw_or1 (pt_cmpR op_lt (pv 0) pe_int (nomark _)))).pt (pss_one (ps_raise raises_cx rfl e_NoNumber pe_str)) pss_nil), ?_⟩
    refine ⟨_, rfl, .int n, _, true, false, rfl, .int n, kit_same K "int", kit_int_bool K, true, rfl, ?_⟩
    refine iteF ⟨_, rfl, _, _, rfl, rfl, _, rfl, ?_⟩
    rw [decide_eq_true hn]
    exact iteT q
theorem sc_least_right : FnScope ["l", "m", "least", "common"] ["l", "m"] (defScope s_least_right) := scLR
def spLRX (q : Addr) : Sp := fun vs H _ E => ∃ (l m : Int), vs = [.int l, .int m] ∧ (l < 1 ∨ m < 1) ∧ E (.ref q) none H
theorem okx_least_right {f : Addr} {fd : FuncData} (F : Fun K "least_right" "least_right" s_least_right f fd) (c_must_be_from_one : CalX P w K mg base "must_be_from_one" 2 ["number"] (fun vs H Q E => spOne vs H Q E ∨ (spOneX q_NoNumber) vs H Q E)) : FnOk P w K mg base (CX1 P w) 3 f fd ["l", "m"] (spLRX q_NoNumber) := by
  refine F.okx sc_least_right (fun vs H Q E h => ?_) (fun cdv A outer s H vs Q E hr h => ?_)
  · obtain ⟨l, m, rfl, hn, q⟩ := h
    rfl
  · obtain ⟨l, m, rfl, hn, q⟩ := h
    have hr_must_be_from_one : Room 2 _ := hr.mono (by decide)
    refine ⟨_, pss_cons (ps_expr (pe_calx c_must_be_from_one hr_must_be_from_one (passes_cx fun _ _ _ h => h) (pa_cons (pv 0) pa_nil)))
      (pss_cons (ps_expr (pe_calx c_must_be_from_one hr_must_be_from_one (passes_cx fun _ _ _ h => h) (pa_cons (pv 1) pa_nil)))
      pss_never), ?_⟩
    by_cases hl : l < 1
    · exact ⟨_, rfl, .inr ⟨l, rfl, hl, q⟩⟩
    · refine ⟨_, rfl, .inl ⟨l, rfl, by omega, ?_⟩⟩
      exact ⟨_, rfl, .inr ⟨m, rfl, by omega, q⟩⟩
end
end My
namespace My
open PySem L2 Mth
section
variable {P : Program} {w : World} {K : PySem.W.Frag} {mg : Str → Option Value} {base : Heap} {q_TurnError q_NoTurn q_NoFit q_NoRounds q_NoNumber q_NoRoot q_TooMany q_NoKind q_NoText q_NoName q_NoRow : Addr}
def spWord (q_NoTurn q_NoFit q_NoRounds q_NoNumber q_NoRoot q_TooMany q_NoKind q_NoText q_NoName q_NoRow : Addr) : Sp := fun vs H Q _ => ∃ (a : Addr) (n : Str) (C : Addr), vs = [.ref a] ∧ H a = some (ExcO a C) ∧ (n, C) ∈ [(("NoTurn" : Str), q_NoTurn), ("NoFit", q_NoFit), ("NoRounds", q_NoRounds), ("NoNumber", q_NoNumber), ("NoRoot", q_NoRoot), ("TooMany", q_TooMany), ("NoKind", q_NoKind), ("NoText", q_NoText), ("NoName", q_NoName), ("NoRow", q_NoRow)] ∧ ∀ H', Same H H' → Q (.str n) H'
theorem word_at {q_NoTurn q_NoFit q_NoRounds q_NoNumber q_NoRoot q_TooMany q_NoKind q_NoText q_NoName q_NoRow : Addr} {n : Str} {C : Addr} (hn : (n, C) ∈ [(("NoTurn" : Str), q_NoTurn), ("NoFit", q_NoFit), ("NoRounds", q_NoRounds), ("NoNumber", q_NoNumber), ("NoRoot", q_NoRoot), ("TooMany", q_TooMany), ("NoKind", q_NoKind), ("NoText", q_NoText), ("NoName", q_NoName), ("NoRow", q_NoRow)]) {ks : List V}
    (hk : ks = [.bl (decide (n = "NoTurn")), .bl (decide (n = "NoNumber")), .bl (decide (n = "NoFit")), .bl (decide (n = "TooMany")), .bl (decide (n = "NoRoot")), .bl (decide (n = "NoRounds")), .bl (decide (n = "NoKind")), .bl (decide (n = "NoText")), .bl (decide (n = "NoName")), .bl (decide (n = "NoRow"))]) :
    ks.length = 10 ∧ ks.all flatV = true ∧ ks.countP (fun i => eqV i (.bl true)) = 1 ∧ ∃ j : Nat, j < 10 ∧ (["NoTurn", "NoNumber", "NoFit", "TooMany", "NoRoot", "NoRounds", "NoKind", "NoText", "NoName", "NoRow"] : List Str)[j]? = some n ∧ ks[j]? = some (.bl true) ∧ ∀ i, i < j → ks[i]? = some (.bl false) := by
  subst hk
  simp only [List.mem_cons, Prod.mk.injEq, List.not_mem_nil, or_false] at hn
  rcases hn with ⟨rfl, _⟩ | ⟨rfl, _⟩ | ⟨rfl, _⟩ | ⟨rfl, _⟩ | ⟨rfl, _⟩ | ⟨rfl, _⟩ | ⟨rfl, _⟩ | ⟨rfl, _⟩ | ⟨rfl, _⟩ | ⟨rfl, _⟩
  · exact ⟨rfl, by decide +kernel, by decide +kernel, 0, by decide +kernel, by decide +kernel, by decide +kernel, by decide +kernel⟩
  · exact ⟨rfl, by decide +kernel, by decide +kernel, 2, by decide +kernel, by decide +kernel, by decide +kernel, by decide +kernel⟩
  · exact ⟨rfl, by decide +kernel, by decide +kernel, 5, by decide +kernel, by decide +kernel, by decide +kernel, by decide +kernel⟩
  · exact ⟨rfl, by decide +kernel, by decide +kernel, 1, by decide +kernel, by decide +kernel, by decide +kernel, by decide +kernel⟩
  · exact ⟨rfl, by decide +kernel, by decide +kernel, 4, by decide +kernel, by decide +kernel, by decide +kernel, by decide +kernel⟩
  · exact ⟨rfl, by decide +kernel, by decide +kernel, 3, by decide +kernel, by decide +kernel, by decide +kernel, by decide +kernel⟩
  · exact ⟨rfl, by decide +kernel, by decide +kernel, 6, by decide +kernel, by decide +kernel, by decide +kernel, by decide +kernel⟩
  · exact ⟨rfl, by decide +kernel, by decide +kernel, 7, by decide +kernel, by decide +kernel, by decide +kernel, by decide +kernel⟩
  · exact ⟨rfl, by decide +kernel, by decide +kernel, 8, by decide +kernel, by decide +kernel, by decide +kernel, by decide +kernel⟩
  · exact ⟨rfl, by decide +kernel, by decide +kernel, 9, by decide +kernel, by decide +kernel, by decide +kernel, by decide +kernel⟩
theorem sc_law_word : FnScope ["caught", "kinds", "words"] ["caught"] (defScope s_law_word) := ⟨rfl, rfl, rfl, by decide +kernel, rfl, by decide +kernel, by decide +kernel⟩
theorem ok_law_word {f : Addr} {fd : FuncData} (F : Fun K "_law_word" "_law_word" s_law_word f fd) (B : Bl mg) (ER : ErrAll K mg q_TurnError [("NoTurn", q_NoTurn), ("NoFit", q_NoFit), ("NoRounds", q_NoRounds), ("NoNumber", q_NoNumber), ("NoRoot", q_NoRoot), ("TooMany", q_TooMany), ("NoKind", q_NoKind), ("NoText", q_NoText), ("NoName", q_NoName), ("NoRow", q_NoRow)]) : FnOk P w K mg base CX0 1 f fd ["caught"] (spWord q_NoTurn q_NoFit q_NoRounds q_NoNumber q_NoRoot q_TooMany q_NoKind q_NoText q_NoName q_NoRow) := by
  refine F.ok sc_law_word (fun vs H Q E h => ?_) (fun cdv A outer s H vs Q E hr h => ?_)
  · obtain ⟨a, n, C, rfl, hH, hn, q⟩ := h
    rfl
  · obtain ⟨a, n, C, rfl, hH, hn, q⟩ := h
    refine ⟨_, pss_cons (ps_set (i := 1) sc_law_word.nd rfl (Or.inl rfl) (pe_lst (pa_cons (pe_isiX B.isi (pa_cons (pv 0) (pa_cons (pe_glob (v := .ref q_NoTurn) (by rfl) (ER.err ("NoTurn", q_NoTurn) (by simp)).mg rfl) pa_nil))) (pa_cons (pe_isiX B.isi (pa_cons (pv 0) (pa_cons (pe_glob (v := .ref q_NoNumber) (by rfl) (ER.err ("NoNumber", q_NoNumber) (by simp)).mg rfl) pa_nil))) (pa_cons (pe_isiX B.isi (pa_cons (pv 0) (pa_cons (pe_glob (v := .ref q_NoFit) (by rfl) (ER.err ("NoFit", q_NoFit) (by simp)).mg rfl) pa_nil))) pa_nil)))))
      (pss_cons (ps_set (i := 1) sc_law_word.nd rfl (Or.inl rfl) (pe_op op_cat (pv 1) (pe_lst (pa_cons (pe_isiX B.isi (pa_cons (pv 0) (pa_cons (pe_glob (v := .ref q_TooMany) (by rfl) (ER.err ("TooMany", q_TooMany) (by simp)).mg rfl) pa_nil))) (pa_cons (pe_isiX B.isi (pa_cons (pv 0) (pa_cons (pe_glob (v := .ref q_NoRoot) (by rfl) (ER.err ("NoRoot", q_NoRoot) (by simp)).mg rfl) pa_nil))) (pa_cons (pe_isiX B.isi (pa_cons (pv 0) (pa_cons (pe_glob (v := .ref q_NoRounds) (by rfl) (ER.err ("NoRounds", q_NoRounds) (by simp)).mg rfl) pa_nil))) pa_nil))))))
      (pss_cons (ps_set (i := 1) sc_law_word.nd rfl (Or.inl rfl) (pe_op op_cat (pv 1) (pe_lst (pa_cons (pe_isiX B.isi (pa_cons (pv 0) (pa_cons (pe_glob (v := .ref q_NoKind) (by rfl) (ER.err ("NoKind", q_NoKind) (by simp)).mg rfl) pa_nil))) (pa_cons (pe_isiX B.isi (pa_cons (pv 0) (pa_cons (pe_glob (v := .ref q_NoText) (by rfl) (ER.err ("NoText", q_NoText) (by simp)).mg rfl) pa_nil))) (pa_cons (pe_isiX B.isi (pa_cons (pv 0) (pa_cons (pe_glob (v := .ref q_NoName) (by rfl) (ER.err ("NoName", q_NoName) (by simp)).mg rfl) pa_nil))) pa_nil))))))
      (pss_cons (ps_expr (pe_append (pv 1) (pa_cons (pe_isiX B.isi (pa_cons (pv 0) (pa_cons (pe_glob (v := .ref q_NoRow) (by rfl) (ER.err ("NoRow", q_NoRow) (by simp)).mg rfl) pa_nil))) pa_nil)))
      (xb_pre (ps_if (pw_or (pt_cmpR op_ne (pe_countV K (pv 1) (pa_cons pe_bl pa_nil)) pe_int (nomark _)) (pw_or1 (pt_not (pt_val (pe_isiX B.isi (pa_cons (pv 0) (pa_cons (pe_tyVE B.ve) pa_nil))))))).pt (pss_one (ps_ret pe_str)) pss_nil)
      (xb_cons (xb_setS (i := 2) ["NoTurn", "NoNumber", "NoFit", "TooMany", "NoRoot", "NoRounds", "NoKind", "NoText", "NoName", "NoRow"] (by decide +kernel) sc_law_word.nd rfl (Or.inl rfl))
      (pss_one (ps_ret (pe_ix ix_list (pv 2) (pe_indexV K (pv 1) (pa_cons pe_bl pa_nil)) (fun _ _ => rfl))))))))), ?_⟩
    have IC := ER.inst (n, C) hn
    refine ⟨_, rfl, a, C, _, _, _, rfl, .inl ⟨_, rfl, rfl⟩, hH, IC, ER.pair (n, C) hn ("NoTurn", q_NoTurn) (by simp), _, rfl, a, C, _, _, _, rfl, .inl ⟨_, rfl, rfl⟩, hH, IC, ER.pair (n, C) hn ("NoNumber", q_NoNumber) (by simp), _, rfl, a, C, _, _, _, rfl, .inl ⟨_, rfl, rfl⟩, hH, IC, ER.pair (n, C) hn ("NoFit", q_NoFit) (by simp), (show 3 ≤ sizeLine by decide), fun l1 h1 => ?_⟩
    obtain ⟨H1, eH1⟩ : ∃ Hn, Hn = upd H l1 (.lst [V.bl (decide (n = "NoTurn")), V.bl (decide (n = "NoNumber")), V.bl (decide (n = "NoFit"))]) := ⟨_, rfl⟩
    have sH1 : Same H H1 := eH1 ▸ Same.upd_new h1
    have gH1 : H1 l1 = some (.lst [V.bl (decide (n = "NoTurn")), V.bl (decide (n = "NoNumber")), V.bl (decide (n = "NoFit"))]) := by rw [eH1]; exact upd_same
    refine eH1 ▸ (?_ : tSeq _ _ _ _ H1)
    have a1 := sH1 a _ hH
    refine ⟨_, rfl, _, rfl, a, C, _, _, _, rfl, .inl ⟨_, rfl, rfl⟩, a1, IC, ER.pair (n, C) hn ("TooMany", q_TooMany) (by simp), _, rfl, a, C, _, _, _, rfl, .inl ⟨_, rfl, rfl⟩, a1, IC, ER.pair (n, C) hn ("NoRoot", q_NoRoot) (by simp), _, rfl, a, C, _, _, _, rfl, .inl ⟨_, rfl, rfl⟩, a1, IC, ER.pair (n, C) hn ("NoRounds", q_NoRounds) (by simp), (show 3 ≤ sizeLine by decide), fun l2 h2 => ?_⟩
    obtain ⟨H2, eH2⟩ : ∃ Hn, Hn = upd H1 l2 (.lst [V.bl (decide (n = "TooMany")), V.bl (decide (n = "NoRoot")), V.bl (decide (n = "NoRounds"))]) := ⟨_, rfl⟩
    have sH2 : Same H1 H2 := eH2 ▸ Same.upd_new h2
    have gH2 : H2 l2 = some (.lst [V.bl (decide (n = "TooMany")), V.bl (decide (n = "NoRoot")), V.bl (decide (n = "NoRounds"))]) := by rw [eH2]; exact upd_same
    refine ⟨l1, l2, [V.bl (decide (n = "NoTurn")), V.bl (decide (n = "NoNumber")), V.bl (decide (n = "NoFit"))], [V.bl (decide (n = "TooMany")), V.bl (decide (n = "NoRoot")), V.bl (decide (n = "NoRounds"))], rfl, rfl, Same.upd_new h2 _ _ gH1, upd_same, (show 6 ≤ sizeLine by decide), fun l3 h3 => ?_⟩
    have h3 : H2 l3 = none := eH2 ▸ h3
    obtain ⟨H3, eH3⟩ : ∃ Hn, Hn = upd H2 l3 (.lst [V.bl (decide (n = "NoTurn")), V.bl (decide (n = "NoNumber")), V.bl (decide (n = "NoFit")), V.bl (decide (n = "TooMany")), V.bl (decide (n = "NoRoot")), V.bl (decide (n = "NoRounds"))]) := ⟨_, rfl⟩
    have sH3 : Same H2 H3 := eH3 ▸ Same.upd_new h3
    have gH3 : H3 l3 = some (.lst [V.bl (decide (n = "NoTurn")), V.bl (decide (n = "NoNumber")), V.bl (decide (n = "NoFit")), V.bl (decide (n = "TooMany")), V.bl (decide (n = "NoRoot")), V.bl (decide (n = "NoRounds"))]) := by rw [eH3]; exact upd_same
    refine (show upd (upd H1 l2 _) l3 _ = H3 by rw [eH3, eH2]) ▸ (?_ : tSeq _ _ _ _ H3)
    have a3 := sH3 a _ (sH2 a _ a1)
    refine ⟨_, rfl, _, rfl, a, C, _, _, _, rfl, .inl ⟨_, rfl, rfl⟩, a3, IC, ER.pair (n, C) hn ("NoKind", q_NoKind) (by simp), _, rfl, a, C, _, _, _, rfl, .inl ⟨_, rfl, rfl⟩, a3, IC, ER.pair (n, C) hn ("NoText", q_NoText) (by simp), _, rfl, a, C, _, _, _, rfl, .inl ⟨_, rfl, rfl⟩, a3, IC, ER.pair (n, C) hn ("NoName", q_NoName) (by simp), (show 3 ≤ sizeLine by decide), fun l4 h4 => ?_⟩
    obtain ⟨H4, eH4⟩ : ∃ Hn, Hn = upd H3 l4 (.lst [V.bl (decide (n = "NoKind")), V.bl (decide (n = "NoText")), V.bl (decide (n = "NoName"))]) := ⟨_, rfl⟩
    have sH4 : Same H3 H4 := eH4 ▸ Same.upd_new h4
    have gH4 : H4 l4 = some (.lst [V.bl (decide (n = "NoKind")), V.bl (decide (n = "NoText")), V.bl (decide (n = "NoName"))]) := by rw [eH4]; exact upd_same
    refine ⟨l3, l4, [V.bl (decide (n = "NoTurn")), V.bl (decide (n = "NoNumber")), V.bl (decide (n = "NoFit")), V.bl (decide (n = "TooMany")), V.bl (decide (n = "NoRoot")), V.bl (decide (n = "NoRounds"))], [V.bl (decide (n = "NoKind")), V.bl (decide (n = "NoText")), V.bl (decide (n = "NoName"))], rfl, rfl, Same.upd_new h4 _ _ gH3, upd_same, (show 9 ≤ sizeLine by decide), fun l5 h5 => ?_⟩
    have h5 : H4 l5 = none := eH4 ▸ h5
    obtain ⟨H5, eH5⟩ : ∃ Hn, Hn = upd H4 l5 (.lst [V.bl (decide (n = "NoTurn")), V.bl (decide (n = "NoNumber")), V.bl (decide (n = "NoFit")), V.bl (decide (n = "TooMany")), V.bl (decide (n = "NoRoot")), V.bl (decide (n = "NoRounds")), V.bl (decide (n = "NoKind")), V.bl (decide (n = "NoText")), V.bl (decide (n = "NoName"))]) := ⟨_, rfl⟩
    have sH5 : Same H4 H5 := eH5 ▸ Same.upd_new h5
    have gH5 : H5 l5 = some (.lst [V.bl (decide (n = "NoTurn")), V.bl (decide (n = "NoNumber")), V.bl (decide (n = "NoFit")), V.bl (decide (n = "TooMany")), V.bl (decide (n = "NoRoot")), V.bl (decide (n = "NoRounds")), V.bl (decide (n = "NoKind")), V.bl (decide (n = "NoText")), V.bl (decide (n = "NoName"))]) := by rw [eH5]; exact upd_same
    refine (show upd (upd H3 l4 _) l5 _ = H5 by rw [eH5, eH4]) ▸ (?_ : tSeq _ _ _ _ H5)
    have a5 := sH5 a _ (sH4 a _ a3)
    refine ⟨_, rfl, .inl ⟨rfl, _, SqL.of gH5⟩, _, rfl, a, C, _, _, _, rfl, .inl ⟨_, rfl, rfl⟩, a5, IC, ER.pair (n, C) hn ("NoRow", q_NoRow) (by simp), l5, _, _, rfl, rfl, gH5, (show 10 ≤ sizeLine by decide), ?_⟩
    have S5 : Same H H4 := sH1.trans (sH2.trans (sH3.trans sH4))
    obtain ⟨H6, eH6⟩ : ∃ Hn, Hn = upd H5 l5 (.lst [V.bl (decide (n = "NoTurn")), V.bl (decide (n = "NoNumber")), V.bl (decide (n = "NoFit")), V.bl (decide (n = "TooMany")), V.bl (decide (n = "NoRoot")), V.bl (decide (n = "NoRounds")), V.bl (decide (n = "NoKind")), V.bl (decide (n = "NoText")), V.bl (decide (n = "NoName")), V.bl (decide (n = "NoRow"))]) := ⟨_, rfl⟩
    have gH6 : H6 l5 = some (.lst [V.bl (decide (n = "NoTurn")), V.bl (decide (n = "NoNumber")), V.bl (decide (n = "NoFit")), V.bl (decide (n = "TooMany")), V.bl (decide (n = "NoRoot")), V.bl (decide (n = "NoRounds")), V.bl (decide (n = "NoKind")), V.bl (decide (n = "NoText")), V.bl (decide (n = "NoName")), V.bl (decide (n = "NoRow"))]) := by rw [eH6]; exact upd_same
    have s6 : Same H H6 := eH6 ▸ (S5.trans sH5).upd_r (S5.free h5)
    have a6 := s6 a _ hH
    refine eH6 ▸ (?_ : tSeq _ _ _ _ H6)
    obtain ⟨kl, fl, cnt, j, hj, wj, kj, kb⟩ := word_at hn (ks := [V.bl (decide (n = "NoTurn")), V.bl (decide (n = "NoNumber")), V.bl (decide (n = "NoFit")), V.bl (decide (n = "TooMany")), V.bl (decide (n = "NoRoot")), V.bl (decide (n = "NoRounds")), V.bl (decide (n = "NoKind")), V.bl (decide (n = "NoText")), V.bl (decide (n = "NoName")), V.bl (decide (n = "NoRow"))]) rfl
    generalize [V.bl (decide (n = "NoTurn")), V.bl (decide (n = "NoNumber")), V.bl (decide (n = "NoFit")), V.bl (decide (n = "TooMany")), V.bl (decide (n = "NoRoot")), V.bl (decide (n = "NoRounds")), V.bl (decide (n = "NoKind")), V.bl (decide (n = "NoText")), V.bl (decide (n = "NoName")), V.bl (decide (n = "NoRow"))] = ks at gH6 kl fl cnt kj kb
    refine ⟨_, rfl, .inl ⟨rfl, _, SqL.of gH6⟩, ⟨l5, ks, .bl true, rfl, rfl, rfl, fl, gH6, ?_⟩⟩
    rw [cnt]
    refine ⟨rfl, _, rfl, ?_⟩
    refine iteF ⟨_, rfl, a, C, _, _, _, rfl, .inr ⟨_, rfl, rfl⟩, a6, IC, ER.ve (n, C) hn, _, rfl, ?_⟩
    refine iteF ?_
    refine ⟨(show 10 ≤ sizeLine by decide), fun l7 h7 => ?_⟩
    have hjk : j < ks.length := (List.getElem?_eq_some_iff.mp kj).1
    refine ⟨_, rfl, _, rfl, .inl ⟨rfl, _, SqL.of (Same.upd_new h7 _ _ gH6)⟩, ⟨l5, ks, .bl true, j, rfl, rfl, rfl, fl, Same.upd_new h7 _ _ gH6, ⟨_, kj, rfl⟩, fun i y hi e => ?_, ?_, ?_⟩⟩
    · rw [kb i hi] at e
      cases e
      rfl
    · omega
    · refine ⟨l7, _, _, _, rfl, rfl, SqL.of upd_same, atI_nat (by rw [List.getElem?_map, wj]; rfl), q _ (s6.trans (Same.upd_new h7))⟩
end
end My
namespace My
open PySem L2 Mth
section
variable {P : Program} {w : World} {K : PySem.W.Frag} {mg : Str → Option Value} {base : Heap} {q_TurnError q_NoTurn q_NoFit q_NoRounds q_NoNumber q_NoRoot q_TooMany q_NoKind q_NoText q_NoName q_NoRow : Addr}
def spAsked : Sp := fun vs H Q _ => ∃ (l m : Int), vs = [.int l, .int m] ∧ l ≤ 1000000000000000000000000000000 ∧ m ≤ 1000000000000000000000000000000 ∧ (1 ≤ l → 1 ≤ m → ∀ d, IsLR l.toNat m.toNat d → Q (.int ((d : Nat) : Int)) H) ∧ ((l < 1 ∨ m < 1) → ∀ H', Same H H' → Q (.str "NoNumber") H')
theorem sc_law_asked : FnScope ["l", "m", "found", "caught", "e"] ["l", "m"] (defScope s_law_asked) := ⟨rfl, rfl, rfl, by decide +kernel, rfl, by decide +kernel, by decide +kernel⟩
theorem ok_law_asked {f : Addr} {fd : FuncData} (F : Fun K "_law_asked" "_law_asked" s_law_asked f fd) (c_least_right : CalX P w K mg base "least_right" 3 ["l", "m"] (fun vs H Q E => spLR vs H Q E ∨ (spLRX q_NoNumber) vs H Q E)) (c_law_word : Cal P w K mg base "_law_word" 1 ["caught"] (spWord q_NoTurn q_NoFit q_NoRounds q_NoNumber q_NoRoot q_TooMany q_NoKind q_NoText q_NoName q_NoRow)) (ER : ErrAll K mg q_TurnError [("NoTurn", q_NoTurn), ("NoFit", q_NoFit), ("NoRounds", q_NoRounds), ("NoNumber", q_NoNumber), ("NoRoot", q_NoRoot), ("TooMany", q_TooMany), ("NoKind", q_NoKind), ("NoText", q_NoText), ("NoName", q_NoName), ("NoRow", q_NoRow)]) : FnOk P w K mg base CX0 4 f fd ["l", "m"] spAsked := by
  refine F.ok sc_law_asked (fun vs H Q E h => ?_) (fun cdv A outer s H vs Q E hr h => ?_)
  · obtain ⟨l, m, rfl, lb, mb, q1, q2⟩ := h
    rfl
  · obtain ⟨l, m, rfl, lb, mb, q1, q2⟩ := h
    have hr_least_right : Room 3 _ := hr.mono (by decide)
    have hr_law_word : Room 1 _ := hr.mono (by decide)
    refine ⟨_, pss_cons (ps_set (i := 2) sc_law_asked.nd rfl (Or.inl rfl) pe_non)
      (pss_cons (ps_set (i := 3) sc_law_asked.nd rfl (Or.inl rfl) pe_non)
      (pss_cons (ps_try (i := 4) (px_set (i := 2) c_least_right hr_least_right sc_law_asked.nd rfl (Or.inl rfl) (pa_cons (pv 0) (pa_cons (pv 1) pa_nil))) ER.top sc_law_asked.nd rfl rfl (fun _ => (pss_one (ps_set (i := 3) sc_law_asked.nd rfl (Or.inl rfl) (pv 4)))))
      (pss_cons (ps_if (pt_cmpR op_isN (pv 3) pe_non (nomark _)) (pss_one (ps_ret (pv 2))) pss_nil)
      (pss_one (ps_ret (pe_cal c_law_word hr_law_word (pa_cons (pv 3) pa_nil))))))), ?_⟩
    by_cases bad : l < 1 ∨ m < 1
    · refine ⟨_, rfl, _, rfl, .inr ⟨l, m, rfl, bad, q_NoNumber, rfl, ER.exm ("NoNumber", q_NoNumber) (by simp), fun a ha => ?_⟩⟩
      refine ⟨_, rfl, ?_⟩
      refine ⟨_, rfl, rfl, _, rfl, ?_⟩
      refine iteF ?_
      refine ⟨_, rfl, a, "NoNumber", q_NoNumber, rfl, upd_same, by simp, fun H' s => q2 bad H' fun b o e => s b o ?_⟩
      rw [upd_ne (ne_of_none e ha)]
      exact e
    · have l1 : 1 ≤ l := by omega
      have m1 : 1 ≤ m := by omega
      refine ⟨_, rfl, _, rfl, .inl ⟨l.toNat, m.toNat, ?_, by omega, by omega, by omega, by omega, fun d hd => ?_⟩⟩
      · rw [Int.toNat_of_nonneg (by omega), Int.toNat_of_nonneg (by omega)]; rfl
      · refine ⟨_, rfl, rfl, _, rfl, ?_⟩
        exact iteT ⟨_, rfl, q1 l1 m1 d hd⟩
end
end My
namespace My
open PySem L2 Mth
section
variable {P : Program} {w : World} {K : PySem.W.Frag} {mg : Str → Option Value} {base : Heap} {q_TurnError q_NoTurn q_NoFit q_NoRounds q_NoNumber q_NoRoot q_TooMany q_NoKind q_NoText q_NoName q_NoRow : Addr}
def spShared : Sp := fun vs H Q _ => ∃ (a b : Nat), vs = [.int (a : Int), .int (b : Int)] ∧ Q (.int ((Nat.gcd a b : Nat) : Int)) H
theorem sc_law_shared : FnScope ["one", "other"] ["one", "other"] (defScope s_law_shared) := ⟨rfl, rfl, rfl, by decide +kernel, rfl, by decide +kernel, by decide +kernel⟩
theorem ok_law_shared {f : Addr} {fd : FuncData} (F : Fun K "_law_shared" "_law_shared" s_law_shared f fd) : FnOk P w K mg base CX0 1 f fd ["one", "other"] spShared := by
  refine F.ok sc_law_shared (fun vs H Q E h => ?_) (fun cdv A outer s H vs Q E hr h => ?_)
  · obtain ⟨x, y, rfl, q⟩ := h
    rfl
  · obtain ⟨x, y, rfl, q⟩ := h
    refine ⟨_, pss_cons (ps_while PassesOwn.never (pt_cmpR op_gt (pv 1) pe_int (nomark _))
        (pss_one (ps_par (i := 0) (j := 1) rfl sc_law_shared.nd rfl rfl (by decide) rfl rfl (pa_cons (pv 1) (pa_cons (pe_op op_mod (pv 0) (pv 1)) pa_nil)) (by rfl))))
      (pss_one (ps_ret (pv 0))), ?_⟩
    refine while_by (fun σ H2 => ∃ (a b : Nat), σ = [some (.int (a : Int)), some (.int (b : Int))] ∧ Nat.gcd a b = Nat.gcd x y ∧ H2 = H) (fun σ _ => secondOf σ) ⟨x, y, rfl, rfl, rfl⟩ ?_ ?_
    · rintro σ H2 ⟨a, b, rfl, hg, rfl⟩
      refine ⟨_, rfl, _, _, rfl, rfl, _, rfl, ?_⟩
      refine ite2 (fun hb => ?_) (fun hb => ?_)
      · have hb : (0 : Int) < (b : Int) := of_decide_eq_true hb
        refine ⟨_, rfl, _, rfl, _, rfl, _, _, rfl, rfl, hb, ?_⟩
        refine ⟨_, _, rfl, ⟨b, a % b, ?_, ?_, rfl⟩, ?_⟩
        · rw [Int.natCast_emod]; rfl
        · rw [← hg, Nat.gcd_comm a b, Nat.gcd_rec b a, Nat.gcd_comm]
        · show ((a : Int) % (b : Int)).toNat < ((b : Int)).toNat
          have := Int.emod_lt_of_pos (a : Int) (show (0 : Int) < (b : Int) by omega)
          have := Int.emod_nonneg (a : Int) (show (b : Int) ≠ 0 by omega)
          omega
      · have hb : ¬ (0 : Int) < (b : Int) := fun z => hb (decide_eq_true z)
        have b0 : b = 0 := by omega
        subst b0
        refine ⟨_, rfl, ?_⟩
        rw [Nat.gcd_zero_right] at hg
        rw [hg]
        exact q
    · rintro σ H2 Q Q' hq ⟨v, hv, i, j, e1, e2, b, e3, z⟩
      exact ⟨v, hv, i, j, e1, e2, b, e3, hq _ _ z⟩
def spPartsBoth : Sp := fun vs H Q _ => ∃ (a b : Nat), vs = [.int (a : Int), .int (b : Int)] ∧ 1 ≤ a ∧ a ≤ 1000 ∧ ∀ H', Same H H' → Q (.int ((Nat.gcd a b : Nat) : Int)) H'
theorem sc_law_parts_both : FnScope ["one", "other"] ["one", "other"] (defScope s_law_parts_both) := ⟨rfl, rfl, rfl, by decide +kernel, rfl, by decide +kernel, by decide +kernel⟩
theorem nd_d_one_other_law_parts_both : (["d", "one", "other"] : List Str).Nodup := by decide +kernel
theorem ok_law_parts_both {f : Addr} {fd : FuncData} (F : Fun K "_law_parts_both" "_law_parts_both" s_law_parts_both f fd) (B : Bl mg) : FnOk P w K mg base CX0 1 f fd ["one", "other"] spPartsBoth := by
  refine F.ok sc_law_parts_both (fun vs H Q E h => ?_) (fun cdv A outer s H vs Q E hr h => ?_)
  · obtain ⟨a, b, rfl, a1, a2, q⟩ := h
    rfl
  · obtain ⟨a, b, rfl, a1, a2, q⟩ := h
    refine ⟨_, pss_one (ps_ret (pe_ix ix_list (pe_comp (N := ["d", "one", "other"]) (nl := 1) (fr := [0, 1]) rfl .of (pi_range2 (by rfl) B.range (pa_cons pe_int (pa_cons (pe_op op_add (pv 0) pe_int) pa_nil))) (fun _ _ _ _ _ => pg_name (i := 0) nd_d_one_other_law_parts_both rfl (Or.inl rfl)) (fun _ _ _ _ _ => pifs_one (pw_and (pt_cmpR op_eq (pe_op op_mod (pv 1) (pv 0)) pe_int (nomark _)) (pw_and1 (pt_cmpR op_eq (pe_op op_mod (pv 2) (pv 0)) pe_int (nomark _)))).pt) (fun _ _ _ _ _ => (pv 0))) (pe_un un_neg pe_int) (fun _ _ => rfl))), ?_⟩
    have g1 : 0 < Nat.gcd a b := Nat.gcd_pos_of_pos_left _ a1
    have ga : Nat.gcd a b ≤ a := Nat.gcd_le_left _ a1
    refine ⟨_, rfl, _, _, rfl, rfl, _, _, rfl, ⟨by decide, by decide, by omega, by omega⟩, comp_range (lo := 1) (n := ((a : Int) + 1 - 1).toNat) (fun i ys σ H3 => ∃ v : Option V, σ = [v, some (.int (a : Int)), some (.int (b : Int))] ∧ ys.length ≤ i ∧ (Nat.gcd a b ≤ i → ∃ ys0 : List V, ys = ys0 ++ [V.int ((Nat.gcd a b : Nat) : Int)]) ∧ H3 = H) ⟨none, rfl, Nat.le_refl _, fun z => by omega, rfl⟩ ?_ ?_⟩
    · rintro i ys σ H3 hi ⟨v, rfl, yl, yg, rfl⟩
      have hsz : 1000 < sizeLine := by decide
      have ep : (0 : Int) < 1 + (i : Int) := by omega
      have di : ∀ c : Nat, V.int ((c : Int) % (1 + (i : Int))) = V.int 0 ↔ (i + 1) ∣ c := fun c => by
        rw [show (1 : Int) + (i : Int) = ((i + 1 : Nat) : Int) by omega, ← Int.natCast_emod]
        constructor
        · intro h
          have := V.int.inj h
          exact Nat.dvd_of_mod_eq_zero (by omega)
        · intro h
          rw [Nat.mod_eq_zero_of_dvd h]; rfl
      refine ⟨_, rfl, _, rfl, _, _, rfl, rfl, ep, rfl, _, rfl, ?_⟩
      have no : ¬ ((i + 1) ∣ a ∧ (i + 1) ∣ b) → (Nat.gcd a b ≤ i + 1 → ∃ ys0 : List V, ys = ys0 ++ [V.int ((Nat.gcd a b : Nat) : Int)]) := fun z hz => by
        rcases Nat.lt_or_ge i (Nat.gcd a b) with y | y
        · have e : Nat.gcd a b = i + 1 := by omega
          exact absurd ⟨e ▸ Nat.gcd_dvd_left a b, e ▸ Nat.gcd_dvd_right a b⟩ z
        · exact yg y
      refine ite2 (fun hx => ?_) (fun hx => ?_)
      · have hx := (di a).mp (of_decide_eq_true hx)
        refine ⟨_, rfl, _, rfl, _, _, rfl, rfl, ep, rfl, _, rfl, ?_⟩
        refine ite2 (fun hy => ?_) (fun hy => ?_)
        · have hy := (di b).mp (of_decide_eq_true hy)
          refine ⟨_, rfl, by omega, _, rfl, by rw [List.length_append]; exact Nat.succ_le_succ yl, fun z => ⟨ys, ?_⟩, rfl⟩
          have h1 := Nat.le_of_dvd g1 (Nat.dvd_gcd hx hy)
          rw [show Nat.gcd a b = i + 1 by omega]
          rw [show (1 : Int) + (i : Int) = ((i + 1 : Nat) : Int) by omega]
        · exact ⟨_, rfl, by omega, no (fun z => hy (decide_eq_true ((di b).mpr z.2))), rfl⟩
      · exact iteF ⟨_, rfl, by omega, no (fun z => hx (decide_eq_true ((di a).mpr z.1))), rfl⟩
    · rintro ys σ H3 ⟨v, rfl, yl, yg, rfl⟩ D hD
      obtain ⟨ys0, rfl⟩ := yg (by omega)
      exact ⟨_, rfl, D, _, _, _, rfl, rfl, SqL.of upd_same, atI_last _ _, q _ (Same.upd_new hD)⟩
def spTried : Sp := fun vs H Q _ => ∃ (l m d : Nat), vs = [.int (l : Int), .int (m : Int)] ∧ 1 ≤ l ∧ l ≤ 9 ∧ 1 ≤ m ∧ m ≤ 20 ∧ IsLR l m d ∧ ∀ H', Same H H' → Q (.int ((d : Nat) : Int)) H'
theorem sc_law_tried : FnScope ["l", "m"] ["l", "m"] (defScope s_law_tried) := ⟨rfl, rfl, rfl, by decide +kernel, rfl, by decide +kernel, by decide +kernel⟩
theorem nd_d_m_l_law_tried : (["d", "m", "l"] : List Str).Nodup := by decide +kernel
theorem ok_law_tried {f : Addr} {fd : FuncData} (F : Fun K "_law_tried" "_law_tried" s_law_tried f fd) (B : Bl mg) (c_law_parts_both : Cal P w K mg base "_law_parts_both" 1 ["one", "other"] spPartsBoth) : FnOk P w K mg base CX0 2 f fd ["l", "m"] spTried := by
  refine F.ok sc_law_tried (fun vs H Q E h => ?_) (fun cdv A outer s H vs Q E hr h => ?_)
  · obtain ⟨l, m, d, rfl, l1, l2, m1, m2, lr, q⟩ := h
    rfl
  · obtain ⟨l, m, d, rfl, l1, l2, m1, m2, lr, q⟩ := h
    have hr_law_parts_both : Room 1 _ := hr.mono (by decide)
    refine ⟨_, pss_one (ps_ret (pe_ix ix_list (pe_comp (N := ["d", "m", "l"]) (nl := 1) (fr := [1, 0]) rfl .of (pi_range2 (by rfl) B.range (pa_cons pe_int (pa_cons (pe_op op_add (pv 1) pe_int) pa_nil))) (fun _ _ _ _ _ => pg_name (i := 0) nd_d_m_l_law_tried rfl (Or.inl rfl)) (fun _ _ _ _ _ => pifs_one (pt_cmpR op_eq (pe_cal c_law_parts_both hr_law_parts_both (pa_cons (pe_op op_mul (pv 0) (pv 2)) (pa_cons (pv 1) pa_nil))) (pv 0) (nomark _))) (fun _ _ _ _ _ => (pv 0))) pe_int (fun _ _ => rfl))), ?_⟩
    have d1 := lr.pos (by omega)
    have dm : d ≤ m := Nat.le_of_dvd (by omega) lr.parts
    have gd : Nat.gcd (d * l) m = d := (right_iff d1).mpr ⟨lr.parts, lr.rest⟩
    refine ⟨_, rfl, _, _, rfl, rfl, _, _, rfl, ⟨by decide, by decide, by omega, by omega⟩, comp_range (lo := 1) (n := ((m : Int) + 1 - 1).toNat) (fun i ys σ H3 => ∃ v : Option V, σ = [v, some (.int (m : Int)), some (.int (l : Int))] ∧ ys.length ≤ i ∧ (i < d → ys = []) ∧ (d ≤ i → ∃ ys0 : List V, ys = V.int (d : Int) :: ys0) ∧ Same H H3) ⟨none, rfl, Nat.le_refl _, fun _ => rfl, fun z => by omega, Same.refl H⟩ ?_ ?_⟩
    · rintro i ys σ H3 hi ⟨v, rfl, yl, y0, yg, s3⟩
      have hsz : 1000 < sizeLine := by decide
      have e0 : (1 : Int) + (i : Int) = ((i + 1 : Nat) : Int) := by omega
      refine ⟨_, rfl, _, rfl, _, _, rfl, rfl, .inr ⟨by omega, by omega⟩, _, rfl, (i + 1) * l, m, ?_, ?_, ?_, fun H4 s4 => ?_⟩
      · show [V.int ((1 + (i : Int)) * (l : Int)), V.int (m : Int)] = _
        rw [e0, ← Int.natCast_mul]
      · exact Nat.mul_pos (by omega) (by omega)
      · have := Nat.mul_le_mul (show i + 1 ≤ 20 by omega) l2
        omega
      refine ⟨_, rfl, rfl, _, rfl, ?_⟩
      refine ite2 (fun hx => ?_) (fun hx => ?_)
      · have hx := V.int.inj (of_decide_eq_true hx)
        have hx : Nat.gcd ((i + 1) * l) m = i + 1 := by omega
        have le := lr.first (by omega) hx
        refine ⟨_, rfl, by omega, _, rfl, by rw [List.length_append]; exact Nat.succ_le_succ yl, fun z => by omega, fun _ => ?_, s3.trans s4⟩
        rcases Nat.lt_or_ge i d with z | z
        · have e1 : d = i + 1 := by omega
          rw [y0 z, e1, e0]
          exact ⟨[], rfl⟩
        · obtain ⟨ys0, rfl⟩ := yg z
          exact ⟨_, rfl⟩
      · refine ⟨_, rfl, by omega, fun z => y0 (by omega), fun z => ?_, s3.trans s4⟩
        rcases Nat.lt_or_ge i d with y | y
        · have e1 : d = i + 1 := by omega
          refine absurd (decide_eq_true ?_) hx
          rw [← e1, gd, e1, e0]
        · exact yg y
    · rintro ys σ H3 ⟨v, rfl, yl, y0, yg, s3⟩ D hD
      obtain ⟨ys0, rfl⟩ := yg (by omega)
      exact ⟨D, _, _, _, rfl, rfl, SqL.of upd_same, atI_nat (j := 0) rfl, q _ (s3.trans (Same.upd_new hD))⟩
def spFits : Sp := fun vs H Q _ => ∃ (l m d : Nat), vs = [.int (l : Int), .int (m : Int), .int (d : Int)] ∧ 1 ≤ l ∧ l ≤ 1000000000000000000000000000000 ∧ 1 ≤ m ∧ m ≤ 1000000000000000000000000000000 ∧ IsLR l m d ∧ Q (.bl true) H
theorem sc_law_fits : FnScope ["l", "m", "d"] ["l", "m", "d"] (defScope s_law_fits) := ⟨rfl, rfl, rfl, by decide +kernel, rfl, by decide +kernel, by decide +kernel⟩
theorem ok_law_fits {f : Addr} {fd : FuncData} (F : Fun K "_law_fits" "_law_fits" s_law_fits f fd) (B : Bl mg) (c_law_shared : Cal P w K mg base "_law_shared" 1 ["one", "other"] spShared) : FnOk P w K mg base CX0 2 f fd ["l", "m", "d"] spFits := by
  refine F.ok sc_law_fits (fun vs H Q E h => ?_) (fun cdv A outer s H vs Q E hr h => ?_)
  · obtain ⟨l, m, d, rfl, l1, l2, m1, m2, lr, q⟩ := h
    rfl
  · obtain ⟨l, m, d, rfl, l1, l2, m1, m2, lr, q⟩ := h
    have hr_law_shared : Room 1 _ := hr.mono (by decide)
    refine ⟨_, pss_cons (ps_if (pw_or (pt_not (pt_val (pe_isi B.isi (pa_cons (pv 2) (pa_cons (pe_tyInt B.int) pa_nil))))) (pw_or (pt_val (pe_isi B.isi (pa_cons (pv 2) (pa_cons (pe_tyBool B.bool) pa_nil)))) (pw_or (pt_cmpR op_lt (pv 2) pe_int (nomark _)) (pw_or (pt_cmpR op_ne (pe_op op_mod (pv 1) (pv 2)) pe_int (nomark _)) (pw_or1 (pt_cmpR op_ne (pe_cal c_law_shared hr_law_shared (pa_cons (pe_op op_fdivB (pv 1) (pv 2)) (pa_cons (pv 0) pa_nil))) pe_int (nomark _))))))).pt (pss_one (ps_ret pe_bl)) pss_nil)
      (pss_cons (ps_while PassesOwn.never (pt_cmpR op_gt (pe_cal c_law_shared hr_law_shared (pa_cons (pv 2) (pa_cons (pv 0) pa_nil))) pe_int (nomark _))
        (pss_one (ps_set (i := 2) sc_law_fits.nd rfl (Or.inl rfl) (pe_op op_fdivB (pv 2) (pe_cal c_law_shared hr_law_shared (pa_cons (pv 2) (pa_cons (pv 0) pa_nil)))))))
      (pss_one (ps_ret (pe_cmpR op_eq (pv 2) pe_int (nomark _))))), ?_⟩
    have d1 := lr.pos (by omega)
    have dm : d ≤ m := Nat.le_of_dvd (by omega) lr.parts
    refine ⟨_, rfl, _, "int", _, true, rfl, .int _, kit_same K "int", true, rfl, ?_⟩
    refine iteF ⟨_, rfl, _, "bool", _, false, rfl, .int _, kit_int_bool K, false, rfl, ?_⟩
    refine iteF ⟨_, rfl, _, _, rfl, rfl, _, rfl, ?_⟩
    rw [decide_eq_false (show ¬ (d : Int) < 1 by omega)]
    refine iteF ⟨_, rfl, _, rfl, _, _, rfl, rfl, (show (0 : Int) < (d : Int) by omega), rfl, _, rfl, ?_⟩
    refine iteNS (congrArg V.int (by rw [← Int.natCast_emod, Nat.mod_eq_zero_of_dvd lr.parts]; rfl)) ?_
    refine ⟨_, rfl, _, rfl, _, _, rfl, rfl, ⟨by omega, by omega⟩, _, rfl, m / d, l, ?_, rfl, _, rfl, ?_⟩
    · show [V.int ((m : Int) / (d : Int)), V.int (l : Int)] = _
      rw [← Int.natCast_ediv]
    rw [Nat.gcd_comm, lr.rest]
    refine iteNS rfl ?_
    refine ⟨fun mm σ H2 => ∃ x : Nat, σ = [some (.int (l : Int)), some (.int (m : Int)), some (.int (x : Int))] ∧ x ∣ d ∧ H2 = H ∧ mm = x, ⟨d, d, rfl, Nat.dvd_refl d, rfl, rfl⟩, ?_⟩
    rintro mm σ H2 ⟨x, rfl, hx, rfl, em⟩
    have x1 : 0 < x := Nat.pos_of_dvd_of_pos hx d1
    have xb : x ≤ d := Nat.le_of_dvd d1 hx
    have gx : Nat.gcd x l ≤ x := Nat.gcd_le_left _ x1
    refine ⟨_, rfl, _, rfl, x, l, rfl, _, _, rfl, rfl, _, rfl, ?_⟩
    refine ite2 (fun hg => ?_) (fun hg => ?_)
    · have hg : (1 : Int) < ((Nat.gcd x l : Nat) : Int) := of_decide_eq_true hg
      refine ⟨fun σ' H' => ∃ m', m' < mm ∧ _, fun _ _ h => h, ?_⟩
      refine ⟨_, rfl, _, rfl, _, rfl, x, l, rfl, _, _, rfl, rfl, ⟨by omega, by omega⟩, ?_⟩
      refine ⟨x / Nat.gcd x l, ?_, x / Nat.gcd x l, ?_, Nat.dvd_trans (Nat.div_dvd_of_dvd (Nat.gcd_dvd_left x l)) hx, rfl, rfl⟩
      · rw [em]; exact Nat.div_lt_self x1 (by omega)
      · show [some (V.int (l : Int)), some (V.int (m : Int)), some (V.int ((x : Int) / ((Nat.gcd x l : Nat) : Int)))] = _
        rw [← Int.natCast_ediv]
    · have hg : ¬ (1 : Int) < ((Nat.gcd x l : Nat) : Int) := fun z => hg (decide_eq_true z)
      have gp : 0 < Nat.gcd x l := Nat.gcd_pos_of_pos_left _ x1
      have e1 := lr.end_ (by omega) hx (by omega)
      subst e1
      refine ⟨_, rfl, rfl, ?_⟩
      rw [decide_eq_true (show V.int ((1 : Nat) : Int) = V.int 1 from rfl)]
      exact q
theorem num_take {rs : List (Nat × Nat)} {j : Nat} {b e : Nat} (h : rs[j]? = some (b, e)) : num (rs.take (j + 1)) = num (rs.take j) * b ^ e := by
  rw [List.take_succ, h, num_app]
  show num (rs.take j) * (b ^ e * 1) = _
  rw [Nat.mul_one]
def spNum : Sp := fun vs H Q _ => ∃ (a : Addr) (as : List Addr) (rs : List (Nat × Nat)), vs = [.ref a] ∧ H a = some (.lst (as.map V.ref)) ∧ TupsH H as (rs.map fun t => [(t.1 : Int), (t.2 : Int)]) ∧ (∀ t ∈ rs, t.1 ≤ 1000003 ∧ t.2 ≤ 100) ∧ rs.length ≤ 100 ∧ Q (.int ((num rs : Nat) : Int)) H
theorem sc_law_number : FnScope ["powers", "found", "prime", "many", "k"] ["powers"] (defScope s_law_number) := ⟨rfl, rfl, rfl, by decide +kernel, rfl, by decide +kernel, by decide +kernel⟩
theorem ok_law_number {f : Addr} {fd : FuncData} (F : Fun K "_law_number" "_law_number" s_law_number f fd) (B : Bl mg) : FnOk P w K mg base CX0 1 f fd ["powers"] spNum := by
  refine F.ok sc_law_number (fun vs H Q E h => ?_) (fun cdv A outer s H vs Q E hr h => ?_)
  · obtain ⟨a, as, rs, rfl, ha, ht, hb, hl, q⟩ := h
    rfl
  · obtain ⟨a, as, rs, rfl, ha, ht, hb, hl, q⟩ := h
    refine ⟨_, pss_cons (ps_set (i := 1) sc_law_number.nd rfl (Or.inl rfl) pe_int)
      (pss_cons (ps_for PassesOwn.never rfl (pi_list (pv 0)) (pg_tup rfl (pgs_cons (pg_name (i := 2) sc_law_number.nd rfl (Or.inl rfl)) (pgs_cons (pg_name (i := 3) sc_law_number.nd rfl (Or.inl rfl)) pgs_nil)))
        (pss_one (ps_for PassesOwn.never rfl (pi_range1 (by rfl) B.range (pa_cons (pv 3) pa_nil)) (pg_name (i := 4) sc_law_number.nd rfl (Or.inl rfl))
          (pss_one (ps_set (i := 1) sc_law_number.nd rfl (Or.inl rfl) (pe_op op_mul (pv 1) (pv 2)))))))
      (pss_one (ps_ret (pv 1)))), ?_⟩
    have hlen : as.length = rs.length := by have := ht.1; rwa [List.length_map] at this
    refine ⟨_, rfl, a, rfl, ⟨_, SqL.of ha⟩, for_list (K := K) (a := a) (xs := as.map V.ref) (fun j σ H2 => ∃ (v2 v3 v4 : Option V), σ = [some (.ref a), some (.int ((num (rs.take j) : Nat) : Int)), v2, v3, v4] ∧ H2 = H) ⟨none, none, none, rfl, rfl⟩ (fun j σ H2 _ ⟨_, _, _, _, e⟩ => by rw [e]; exact SqL.of ha) ?_ ?_⟩
    · rintro j y σ H2 hj ⟨v2, v3, v4, rfl, rfl⟩
      rw [List.getElem?_map] at hj
      cases hja : as[j]? with
      | none => rw [hja] at hj; cases hj
      | some t =>
        rw [hja] at hj
        cases hj
        have jl : j < rs.length := by rw [← hlen]; exact (List.getElem?_eq_some_iff.mp hja).1
        obtain ⟨⟨b, e⟩, hbe⟩ : ∃ be, rs[j]? = some be := ⟨_, List.getElem?_eq_getElem jl⟩
        have htj := ht.2 j t [(b : Int), (e : Int)] hja (by rw [List.getElem?_map, hbe]; rfl)
        obtain ⟨b1, e1⟩ := hb (b, e) (List.mem_of_getElem? hbe)
        refine ⟨t, _, rfl, SqT.of htj, rfl, _, _, rfl, _, _, rfl, rfl, ?_⟩
        refine ⟨_, rfl, (e : Int), rfl, by omega, by omega, for_range (lo := 0) (n := (e : Int).toNat) (fun i σ H3 => ∃ (v4 : Option V), σ = [some (.ref a), some (.int ((num (rs.take j) * b ^ i : Nat) : Int)), some (.int (b : Int)), some (.int (e : Int)), v4] ∧ H3 = H2) ⟨v4, by rw [Nat.pow_zero, Nat.mul_one]; rfl, rfl⟩ ?_ ?_⟩
        · rintro i σ H3 hi ⟨v4, rfl, rfl⟩
          refine ⟨_, rfl, _, rfl, _, _, rfl, rfl, .inr ⟨by omega, by omega⟩, some (.int (0 + (i : Int))), ?_, rfl⟩
          show [some (V.ref a), some (V.int (((num (rs.take j) * b ^ i : Nat) : Int) * (b : Int))), some (V.int (b : Int)), some (V.int (e : Int)), some (V.int (0 + (i : Int)))] = _
          rw [Nat.pow_succ, ← Nat.mul_assoc, Int.natCast_mul (num (rs.take j) * b ^ i) b]
        · rintro σ H3 ⟨v4, rfl, rfl⟩
          refine ⟨some (.int (b : Int)), some (.int (e : Int)), v4, ?_, rfl⟩
          rw [num_take hbe, show (e : Int).toNat = e by omega]
    · rintro σ H2 ⟨v2, v3, v4, rfl, rfl⟩
      refine ⟨_, rfl, ?_⟩
      rw [List.take_of_length_le (by rw [List.length_map, hlen]; exact Nat.le_refl _)]
      exact q
end
end My
namespace My
open PySem L2 Mth
section
variable {P : Program} {w : World} {K : PySem.W.Frag} {mg : Str → Option Value} {base : Heap} {q_TurnError q_NoTurn q_NoFit q_NoRounds q_NoNumber q_NoRoot q_TooMany q_NoKind q_NoText q_NoName q_NoRow : Addr}
theorem dk_same {H H' : Hp} {a : Addr} (h : DeckAt H a) (s : Same H H') : DeckAt H' a := let ⟨ds, e, r⟩ := h; ⟨ds, s _ _ e, r⟩
theorem dk_upd {H : Hp} {a b : Addr} {o : HO} (h : DeckAt H a) (n : a ≠ b) : DeckAt (L2.upd H b o) a := let ⟨ds, e, r⟩ := h; ⟨ds, by rw [upd_ne n]; exact e, r⟩
theorem dk_some {H : Hp} {a : Addr} (h : DeckAt H a) : ∃ o, H a = some o := let ⟨_, e, _⟩ := h; ⟨_, e⟩
theorem dk_ne {H : Hp} {a b : Addr} (h : DeckAt H a) (n : H b = none) : a ≠ b := fun z => by obtain ⟨o, e⟩ := dk_some h; rw [z, n] at e; cases e
def bases7 : List (Nat × Nat) := [(2, 20), (3, 10), (5, 6), (7, 4), (11, 3), (13, 2), (1000003, 1)]
def Powers (rs : List (Nat × Nat)) : Prop := rs.length = 7 ∧ ∀ (j : Nat) (b e : Nat), rs[j]? = some (b, e) → ∃ m, bases7[j]? = some (b, m) ∧ e ≤ m
def spDrawn : Sp := fun vs H Q _ => ∃ (g : Addr), vs = [.ref g] ∧ DeckAt H g ∧ ∀ (l : Addr) (as : List Addr) (rs : List (Nat × Nat)) (H' : Hp), H l = none → (∀ a ∈ as, H a = none) → Powers rs → KeepBut g H H' → DeckAt H' g → H' l = some (.lst (as.map V.ref)) → TupsH H' as (rs.map fun t => [(t.1 : Int), (t.2 : Int)]) → Q (.ref l) H'
theorem sc_law_drawn : FnScope ["deck", "found", "prime", "most"] ["deck"] (defScope s_law_drawn) := ⟨rfl, rfl, rfl, by decide +kernel, rfl, by decide +kernel, by decide +kernel⟩
theorem ok_law_drawn {f : Addr} {fd : FuncData} (F : Fun K "_law_drawn" "_law_drawn" s_law_drawn f fd) (c_law_next : Cal P w K mg base "_law_next" 1 ["deck"] spNext) : FnOk P w K mg base CX0 2 f fd ["deck"] spDrawn := by
  refine F.ok sc_law_drawn (fun vs H Q E h => ?_) (fun cdv A outer s H vs Q E hr h => ?_)
  · obtain ⟨g, rfl, hg, q⟩ := h
    rfl
  · obtain ⟨g, rfl, hg, q⟩ := h
    have hr_law_next : Room 1 _ := hr.mono (by decide)
    refine ⟨_, xb_pre (ps_set (i := 1) sc_law_drawn.nd rfl (Or.inl rfl) (pe_lst pa_nil))
      (xb_cons (xb_tupsT [[2, 20], [3, 10], [5, 6], [7, 4], [11, 3], [13, 2], [1000003, 1]] (by decide +kernel) rfl PassesOwn.never (pg_tup rfl (pgs_cons (pg_name (i := 2) sc_law_drawn.nd rfl (Or.inl rfl)) (pgs_cons (pg_name (i := 3) sc_law_drawn.nd rfl (Or.inl rfl)) pgs_nil)))
        (pss_one (ps_expr (pe_append (pv 1) (pa_cons (pe_tup (pa_cons (pv 2) (pa_cons (pe_op op_mod (pe_cal c_law_next hr_law_next (pa_cons (pv 0) pa_nil)) (pe_ix ix_list (pe_lst (pa_cons (pe_op op_add (pv 3) pe_int) (pa_cons pe_int pa_nil))) (pe_op op_mod (pe_cal c_law_next hr_law_next (pa_cons (pv 0) pa_nil)) pe_int) (fun _ _ => rfl))) pa_nil))) pa_nil)))))
      (pss_one (ps_ret (pv 1)))), ?_⟩
    refine ⟨(show 0 ≤ sizeLine by decide), fun l hl => ?_⟩
    refine ⟨by decide, by decide, fun t0 as0 H1 ht0 s1 h1t tups fr => ⟨t0, rfl, ⟨_, SqT.of h1t⟩, for_tup (K := K) (a := t0) (xs := as0.map V.ref) (fun i σ H2 => ∃ (as : List Addr) (rs : List (Nat × Nat)) (v2 v3 : Option V), σ = [some (.ref g), some (.ref l), v2, v3] ∧ as.length = i ∧ rs.length = i ∧ (∀ (j : Nat) (b e : Nat), rs[j]? = some (b, e) → ∃ m, bases7[j]? = some (b, m) ∧ e ≤ m) ∧ KeepBut g H H2 ∧ DeckAt H2 g ∧ (∀ a ∈ as, H a = none) ∧ H2 l = some (.lst (as.map V.ref)) ∧ TupsH H2 as (rs.map fun t => [(t.1 : Int), (t.2 : Int)]) ∧ H2 t0 = some (.tup (as0.map V.ref)) ∧ TupsH H2 as0 [[2, 20], [3, 10], [5, 6], [7, 4], [11, 3], [13, 2], [1000003, 1]]) ?_ (fun i σ H2 _ ⟨_, _, _, _, _, _, _, _, _, _, _, _, _, e, _⟩ => SqT.of e) ?_ ?_⟩⟩
    · have s01 : Same H H1 := (Same.upd_new hl).trans s1
      obtain ⟨ds, hd, hp, hn⟩ := hg
      exact ⟨[], [], none, none, rfl, rfl, rfl, fun j b e z => by simp at z, s01.but g, ⟨ds, s01 _ _ hd, hp, hn⟩, fun a z => by simp at z, s1 l _ upd_same, ⟨rfl, fun j a r z => by simp at z⟩, h1t, tups⟩
    · rintro i x σ H2 hx ⟨as, rs, v2, v3, rfl, la, lr, hp, kb, dk, fa, h2l, tu, h2t, tu0⟩
      rw [List.getElem?_map] at hx
      cases hxa : as0[i]? with
      | none => rw [hxa] at hx; cases hx
      | some t =>
        rw [hxa] at hx
        cases hx
        have il : i < 7 := by
          have h1 := (List.getElem?_eq_some_iff.mp hxa).1
          have h2 : as0.length = 7 := tu0.1
          omega
        obtain ⟨⟨b, m⟩, hbm⟩ : ∃ be, bases7[i]? = some be := ⟨_, List.getElem?_eq_getElem (show i < bases7.length from il)⟩
        have htj := tu0.2 i t [(b : Int), (m : Int)] hxa (by
          rw [show ([[2, 20], [3, 10], [5, 6], [7, 4], [11, 3], [13, 2], [1000003, 1]] : List (List Int)) = bases7.map (fun t => [(t.1 : Int), (t.2 : Int)]) from rfl, List.getElem?_map, hbm]; rfl)
        have ngl : l ≠ g := fun z => by obtain ⟨ds, hd, _⟩ := hg; rw [← z, hl] at hd; cases hd
        refine ⟨t, _, rfl, SqT.of htj, rfl, _, _, rfl, _, _, rfl, rfl, ?_⟩
        refine ⟨_, rfl, .inl ⟨rfl, _, SqL.of h2l⟩, _, rfl, _, rfl, g, rfl, dk, fun r1 H3 r10 dk3 kb3 => ?_⟩
        refine ⟨_, rfl, _, _, rfl, rfl, (show 2 ≤ sizeLine by decide), fun l2 hl2 => ?_⟩
        obtain ⟨H3', e3⟩ : ∃ Hn, Hn = upd H3 l2 (.lst [V.int ((m : Int) + 1), V.int 2]) := ⟨_, rfl⟩
        have s3 : Same H3 H3' := e3 ▸ Same.upd_new hl2
        have h3l2 : H3' l2 = some (.lst (([(m : Int) + 1, 2] : List Int).map V.int)) := by rw [e3, upd_same]; rfl
        refine ⟨_, rfl, g, rfl, e3 ▸ dk_same dk3 s3, fun r2 H4 r20 dk4 kb4 => ?_⟩
        rw [← e3] at kb4
        have ng2 : l2 ≠ g := (dk_ne dk3 hl2).symm
        have h4l2 := kb4 l2 _ h3l2 ng2
        have q0 := Int.emod_nonneg r2 (show (2 : Int) ≠ 0 by decide)
        have q1 := Int.emod_lt_of_pos r2 (show (0 : Int) < 2 by decide)
        obtain ⟨n, hn⟩ : ∃ n, ([(m : Int) + 1, 2] : List Int).getD (r2 % 2).toNat 0 = n := ⟨_, rfl⟩
        have m1 : 1 ≤ m := by
          have : (b, m) ∈ bases7 := List.mem_of_getElem? hbm
          simp only [bases7, List.mem_cons, Prod.mk.injEq, List.not_mem_nil, or_false] at this
          omega
        have nb : 0 < n ∧ n ≤ (m : Int) + 1 := by
          rcases (show r2 % 2 = 0 ∨ r2 % 2 = 1 by omega) with z | z
          · rw [z] at hn
            have hn : (m : Int) + 1 = n := hn
            omega
          · rw [z] at hn
            have hn : (2 : Int) = n := hn
            omega
        have v0 := Int.emod_nonneg r1 (show n ≠ 0 by omega)
        have v1 := Int.emod_lt_of_pos r1 (show 0 < n by omega)
        refine ⟨_, _, rfl, rfl, (show (0 : Int) < 2 by decide), l2, _, _, _, rfl, rfl, SqL.of h4l2, atI_map q0 q1, ?_⟩
        rw [hn]
        refine ⟨_, _, rfl, rfl, nb.1, (show 2 ≤ sizeLine by decide), fun t2 ht2 => ?_⟩
        have kH4 : KeepBut g H2 H4 := (kb3.trans (s3.but g)).trans kb4
        have h4l := kH4 l _ h2l ngl
        have ntl : l ≠ t2 := ne_of_none h4l ht2
        have ngt : g ≠ t2 := dk_ne dk4 ht2
        have ft : H t2 = none := (kb.trans kH4).free ht2 ngt.symm
        refine ⟨l, _, _, rfl, rfl, by rw [upd_ne ntl]; exact h4l, small1000 (by rw [List.length_map]; omega), ?_⟩
        have nal : ∀ a o, H2 a = some (.tup o) → a ≠ l := fun a o h z => by rw [z, h2l] at h; cases h
        have go : ∀ a o, H2 a = some (.tup o) → a ≠ g → (upd (upd H4 t2 (.tup [.int (b : Int), .int (r1 % n)])) l (.lst (as.map V.ref ++ [.ref t2]))) a = some (.tup o) := fun a o h z => by
          have := kH4 a _ h z
          rw [upd_ne (nal a o h), upd_ne (ne_of_none this ht2)]
          exact this
        have nag : ∀ a o, H2 a = some (.tup o) → a ≠ g := fun a o h z => by
          obtain ⟨ds, hd, _⟩ := dk
          rw [z, hd] at h; cases h
        refine ⟨as ++ [t2], rs ++ [(b, (r1 % n).toNat)], _, _, rfl, by rw [List.length_append, la]; rfl, by rw [List.length_append, lr]; rfl, fun j b' e' hj => ?_, fun c o hc hn => ?_, dk_upd (dk_upd dk4 ngt) ngl.symm, fun a ha => ?_, by rw [upd_same, List.map_append]; rfl, ⟨?_, fun j a r ha hr => ?_⟩, go _ _ h2t (nag _ _ h2t), ⟨tu0.1, fun j a r ha hr => ?_⟩⟩
        · rcases Nat.lt_or_ge j rs.length with z | z
          · rw [List.getElem?_append_left z] at hj
            exact hp j b' e' hj
          · rw [List.getElem?_append_right z] at hj
            have ej : j - rs.length = 0 := by
              have := (List.getElem?_eq_some_iff.mp hj).1
              simp at this; omega
            rw [ej] at hj
            cases hj
            refine ⟨m, by rw [show j = i by omega]; exact hbm, by omega⟩
        · have := (kb.trans kH4) c o hc hn
          rw [upd_ne (ne_of_none hc hl), upd_ne (ne_of_none this ht2)]
          exact this
        · rcases List.mem_append.mp ha with z | z
          · exact fa a z
          · rw [List.mem_singleton.mp z]; exact ft
        · rw [List.length_map, List.length_append, List.length_append, la, lr]; rfl
        · rcases Nat.lt_or_ge j rs.length with z | z
          · rw [List.getElem?_append_left (by omega)] at ha
            rw [List.getElem?_map, List.getElem?_append_left z, ← List.getElem?_map] at hr
            have := tu.2 j a r ha hr
            exact go a _ this (nag a _ this)
          · rw [List.getElem?_append_right (by omega)] at ha
            rw [List.getElem?_map, List.getElem?_append_right z] at hr
            have ej : j - as.length = 0 := by
              have := (List.getElem?_eq_some_iff.mp ha).1
              simp at this; omega
            rw [ej] at ha
            rw [show j - rs.length = 0 by omega] at hr
            cases ha
            cases hr
            rw [upd_ne ntl.symm, upd_same]
            show some (HO.tup [V.int (b : Int), V.int (r1 % n)]) = some (HO.tup [V.int (b : Int), V.int (((r1 % n).toNat : Nat) : Int)])
            rw [Int.toNat_of_nonneg v0]
        · have := tu0.2 j a r ha hr
          exact go a _ this (nag a _ this)
    · rintro σ H2 ⟨as, rs, v2, v3, rfl, la, lr, hp, kb, dk, fa, h2l, tu, _, _⟩
      have e7 : (as0.map V.ref).length = 7 := by rw [List.length_map, tups.1]; rfl
      rw [e7] at la lr
      exact ⟨_, rfl, q l as rs H2 hl fa ⟨lr, hp⟩ kb dk h2l tu⟩
end
end My
namespace My
open PySem L2 Mth
section
variable {P : Program} {w : World} {K : PySem.W.Frag} {mg : Str → Option Value} {base : Heap} {q_TurnError q_NoTurn q_NoFit q_NoRounds q_NoNumber q_NoRoot q_TooMany q_NoKind q_NoText q_NoName q_NoRow : Addr}
def spGreat : Sp := fun vs H Q _ => ∃ (g : Addr), vs = [.ref g] ∧ DeckAt H g ∧ ∀ (H' : Hp), KeepBut g H H' → DeckAt H' g → Q (.bl true) H'
structure PairsUp (H H' : Hp) (as : List Addr) (ps : List (List Int)) : Prop where
  same : Same H H'
  tups : TupsH H' as ps
theorem PairsUp.nil (H : Hp) : PairsUp H H [] [] := ⟨Same.refl H, rfl, fun j a r z => by simp at z⟩
theorem PairsUp.snoc {H H' : Hp} {as : List Addr} {ps : List (List Int)} (h : PairsUp H H' as ps) {p : Addr} {x y : Int} (hp : H' p = none) : PairsUp H (upd H' p (.tup [.int x, .int y])) (as ++ [p]) (ps ++ [[x, y]]) := by
  refine ⟨h.same.trans (Same.upd_new hp), by rw [List.length_append, List.length_append, h.tups.1]; rfl, fun j a r h1 h2 => ?_⟩
  have e := h.tups.1
  rcases Nat.lt_or_ge j as.length with z | z
  · rw [List.getElem?_append_left z] at h1
    rw [List.getElem?_append_left (by omega)] at h2
    have := h.tups.2 j a r h1 h2
    rw [upd_ne (ne_of_none this hp)]; exact this
  · rw [List.getElem?_append_right z] at h1
    rw [List.getElem?_append_right (by omega)] at h2
    have ej : j - as.length = 0 := by
      have := (List.getElem?_eq_some_iff.mp h1).1
      simp at this; omega
    rw [ej] at h1
    rw [show j - ps.length = 0 by omega] at h2
    cases h1; cases h2
    exact upd_same
theorem PairsUp.on {H H' H2 : Hp} {as : List Addr} {ps : List (List Int)} (h : PairsUp H H' as ps) (s : Same H' H2) : PairsUp H H2 as ps := ⟨h.same.trans s, h.tups.keep s⟩
theorem sc_law_great_right : FnScope ["deck", "a", "b", "c", "prime", "power", "k", "great", "pairs"] ["deck"] (defScope s_law_great_right) := ⟨rfl, rfl, rfl, by decide +kernel, rfl, by decide +kernel, by decide +kernel⟩
theorem nd_k_deck_law_great_right : (["k", "deck"] : List Str).Nodup := by decide +kernel
theorem nd_l_m_law_great_right : (["l", "m"] : List Str).Nodup := by decide +kernel
theorem ok_law_great_right {f : Addr} {fd : FuncData} (F : Fun K "_law_great_right" "_law_great_right" s_law_great_right f fd) (B : Bl mg) (c_law_next : Cal P w K mg base "_law_next" 1 ["deck"] spNext) (c_law_fits : Cal P w K mg base "_law_fits" 2 ["l", "m", "d"] spFits) (c_law_asked : Cal P w K mg base "_law_asked" 4 ["l", "m"] spAsked) : FnOk P w K mg base CX0 5 f fd ["deck"] spGreat := by
  refine F.ok sc_law_great_right (fun vs H Q E h => ?_) (fun cdv A outer s H vs Q E hr h => ?_)
  · obtain ⟨g, rfl, hg, q⟩ := h
    rfl
  · obtain ⟨g, rfl, hg, q⟩ := h
    have hr_law_next : Room 1 _ := hr.mono (by decide)
    have hr_law_fits : Room 2 _ := hr.mono (by decide)
    have hr_law_asked : Room 4 _ := hr.mono (by decide)
    have hu := hu_of hr
    refine ⟨_, pss_cons (ps_asg (pe_comp (N := ["k", "deck"]) (nl := 1) (fr := [0]) rfl .of (pi_range1 (by rfl) B.range (pa_cons pe_int pa_nil)) (fun _ _ _ _ _ => pg_name (i := 0) nd_k_deck_law_great_right rfl (Or.inl rfl)) (fun _ _ _ _ _ => pifs_nil) (fun _ _ _ _ _ => (pe_op op_add (pe_op op_add pe_int (pe_op op_mul (pe_op op_mod (pe_cal c_law_next hr_law_next (pa_cons (pv 1) pa_nil)) pe_int) pe_int)) (pe_op op_mod (pe_cal c_law_next hr_law_next (pa_cons (pv 1) pa_nil)) pe_int)))) (pg_lst K 3 rfl (pgs_cons (pg_name (i := 1) sc_law_great_right.nd rfl (Or.inl rfl)) (pgs_cons (pg_name (i := 2) sc_law_great_right.nd rfl (Or.inl rfl)) (pgs_cons (pg_name (i := 3) sc_law_great_right.nd rfl (Or.inl rfl)) pgs_nil)))))
      (pss_cons (ps_set (i := 4) sc_law_great_right.nd rfl (Or.inl rfl) (pe_ix ix_list (pe_litsO [2, 3, 5, 7, 11] rfl) (pe_op op_mod (pe_cal c_law_next hr_law_next (pa_cons (pv 0) pa_nil)) pe_int) (fun _ _ => rfl)))
      (pss_cons (ps_set (i := 5) sc_law_great_right.nd rfl (Or.inl rfl) (pv 4))
      (pss_cons (ps_for PassesOwn.never rfl (pi_range1 (by rfl) B.range (pa_cons (pe_op op_mod (pe_cal c_law_next hr_law_next (pa_cons (pv 0) pa_nil)) pe_int) pa_nil)) (pg_name (i := 6) sc_law_great_right.nd rfl (Or.inl rfl))
        (pss_one (ps_if (pt_cmpR op_lt (pv 5) (pe_op op_pow pe_int pe_int) (nomark _)) (pss_one (ps_set (i := 5) sc_law_great_right.nd rfl (Or.inl rfl) (pe_op op_mul (pv 5) (pv 4)))) pss_nil)))
      (pss_cons (ps_set (i := 7) sc_law_great_right.nd rfl (Or.inl rfl) (pe_op op_add pe_int (pe_op op_mod (pe_op op_add (pe_op op_mul (pe_op op_mul (pe_op op_mul (pv 1) (pv 2)) (pv 3)) pe_int) (pv 1)) (pe_op op_sub (pe_op op_pow pe_int pe_int) pe_int))))
      (pss_cons (ps_set (i := 8) sc_law_great_right.nd rfl (Or.inl rfl) (pe_lst (pa_cons (pe_tup (pa_cons (pe_op op_mul (pv 1) (pv 2)) (pa_cons (pe_op op_mul (pv 1) (pv 3)) pa_nil))) (pa_cons (pe_tup (pa_cons (pe_op op_mul (pv 1) (pv 2)) (pa_cons (pe_op op_mul (pe_op op_mul (pv 1) (pv 1)) (pv 3)) pa_nil))) (pa_cons (pe_tup (pa_cons (pv 2) (pa_cons (pe_op op_mul (pv 1) (pv 3)) pa_nil))) (pa_cons (pe_tup (pa_cons (pv 1) (pa_cons (pv 5) pa_nil))) (pa_cons (pe_tup (pa_cons (pe_op op_mul (pv 1) (pv 4)) (pa_cons (pv 5) pa_nil))) (pa_cons (pe_tup (pa_cons (pv 5) (pa_cons (pe_op op_mul (pe_op op_mul (pv 1) (pv 1)) (pv 3)) pa_nil))) pa_nil))))))))
      (pss_cons (ps_set (i := 8) sc_law_great_right.nd rfl (Or.inl rfl) (pe_op op_cat (pv 8) (pe_lst (pa_cons (pe_tup (pa_cons (pv 7) (pa_cons (pv 7) pa_nil))) (pa_cons (pe_tup (pa_cons (pv 7) (pa_cons (pv 1) pa_nil))) (pa_cons (pe_tup (pa_cons (pv 2) (pa_cons (pv 7) pa_nil))) pa_nil))))))
      (pss_one (ps_ret (pe_cmpR (op_eqL 0 hu) (pe_comp (N := ["l", "m"]) (nl := 2) (fr := []) rfl .of (pi_list (pv 8)) (fun _ _ _ _ _ => pg_tupK K (n := 2) rfl (pgs_cons (pg_name (i := 0) nd_l_m_law_great_right rfl (Or.inl rfl)) (pgs_cons (pg_name (i := 1) nd_l_m_law_great_right rfl (Or.inl rfl)) pgs_nil))) (fun _ _ _ _ _ => pifs_one (pt_not (pt_val (pe_cal c_law_fits hr_law_fits (pa_cons (pv 0) (pa_cons (pv 1) (pa_cons (pe_cal c_law_asked hr_law_asked (pa_cons (pv 0) (pa_cons (pv 1) pa_nil))) pa_nil))))))) (fun _ _ _ _ _ => pe_int)) (pe_lst pa_nil) (nomark _)))))))))), ?_⟩
    refine ⟨(3 : Int), rfl, by decide, by decide, comp_range (lo := 0) (n := 3) (fun i ys σ H3 => ∃ (v : Option V) (ns : List Int), σ = [v, some (.ref g)] ∧ ys = ns.map V.int ∧ ns.length = i ∧ (∀ x ∈ ns, 1 ≤ x ∧ x ≤ 720720000) ∧ KeepBut g H H3 ∧ DeckAt H3 g) ⟨none, [], rfl, rfl, rfl, fun x z => by simp at z, KeepBut.refl g H, hg⟩ ?_ ?_⟩
    · rintro i ys σ H3 hi ⟨v, ns, rfl, rfl, ln, bd, kb, dk⟩
      have hsz : 1000 < sizeLine := by decide
      refine ⟨_, rfl, g, rfl, dk, fun r1 H4 r10 dk4 kb4 => ?_⟩
      have a0 := Int.emod_nonneg r1 (show (720720 : Int) ≠ 0 by decide)
      have a1 := Int.emod_lt_of_pos r1 (show (0 : Int) < 720720 by decide)
      refine ⟨_, _, rfl, rfl, (show (0 : Int) < 720720 by decide), _, _, rfl, rfl, .inr ⟨by decide, by decide⟩, _, _, rfl, rfl, _, rfl, g, rfl, dk4, fun r2 H5 r20 dk5 kb5 => ?_⟩
      have b0 := Int.emod_nonneg r2 (show (1000 : Int) ≠ 0 by decide)
      have b1 := Int.emod_lt_of_pos r2 (show (0 : Int) < 1000 by decide)
      refine ⟨_, _, rfl, rfl, (show (0 : Int) < 1000 by decide), _, _, rfl, rfl, by rw [List.length_map]; omega, _, ns ++ [1 + r1 % 720720 * 1000 + r2 % 1000], rfl, by rw [List.map_append]; rfl, by rw [List.length_append, ln]; rfl, fun x hx => ?_, (kb.trans kb4).trans kb5, dk5⟩
      rcases List.mem_append.mp hx with z | z
      · exact bd x z
      · rw [List.mem_singleton.mp z]; omega
    rintro ys σ H1 ⟨v, ns, rfl, rfl, ln, bd, kb1, dk1⟩ D hD
    obtain ⟨a, b, c, rfl⟩ : ∃ a b c, ns = [a, b, c] := by
      match ns, ln with
      | [a, b, c], _ => exact ⟨a, b, c, rfl⟩
    obtain ⟨a1, a2⟩ := bd a (by simp)
    obtain ⟨b1, b2⟩ := bd b (by simp)
    obtain ⟨c1, c2⟩ := bd c (by simp)
    clear bd ln v
    obtain ⟨H2, e2⟩ : ∃ Hn, Hn = upd H1 D (.lst ([a, b, c].map V.int)) := ⟨_, rfl⟩
    have s2 : Same H1 H2 := e2 ▸ Same.upd_new hD
    have h2D : H2 D = some (.lst ([a, b, c].map V.int)) := by rw [e2]; exact upd_same
    have dk2 : DeckAt H2 g := dk_same dk1 s2
    have kb2 : KeepBut g H H2 := kb1.trans (s2.but g)
    rw [← e2]
    clear e2
    refine ⟨D, _, rfl, SqL.of h2D, rfl, _, _, rfl, _, _, rfl, _, _, rfl, rfl, ?_⟩
    refine ⟨(show 5 ≤ sizeLine by decide), fun l5 hl5 => ?_⟩
    obtain ⟨H3, e3⟩ : ∃ Hn, Hn = upd H2 l5 (.lst (([2, 3, 5, 7, 11] : List Int).map V.int)) := ⟨_, rfl⟩
    have s3 : Same H2 H3 := e3 ▸ Same.upd_new hl5
    have h3l5 : H3 l5 = some (.lst (([2, 3, 5, 7, 11] : List Int).map V.int)) := by rw [e3]; exact upd_same
    rw [← e3]
    clear e3
    have dk3 := dk_same dk2 s3
    refine ⟨_, rfl, g, rfl, dk3, fun r3 H4 r30 dk4 kb4 => ?_⟩
    have h4l5 := kb4 l5 _ h3l5 (dk_ne dk2 hl5).symm
    have q0 := Int.emod_nonneg r3 (show (5 : Int) ≠ 0 by decide)
    have q1 := Int.emod_lt_of_pos r3 (show (0 : Int) < 5 by decide)
    refine ⟨_, _, rfl, rfl, (show (0 : Int) < 5 by decide), l5, _, _, _, rfl, rfl, SqL.of h4l5, atI_map q0 q1, ?_⟩
    obtain ⟨pr, hpr⟩ : ∃ n, ([2, 3, 5, 7, 11] : List Int).getD (r3 % 5).toNat 0 = n := ⟨_, rfl⟩
    have prb : 2 ≤ pr ∧ pr ≤ 11 := by
      rcases (show r3 % 5 = 0 ∨ r3 % 5 = 1 ∨ r3 % 5 = 2 ∨ r3 % 5 = 3 ∨ r3 % 5 = 4 by omega) with z | z | z | z | z
      all_goals
        rw [z] at hpr
        rw [← hpr]
        decide
    rw [hpr]
    clear hpr
    have kb4' : KeepBut g H H4 := (kb2.trans (s3.but g)).trans kb4
    clear kb2 kb1 s2 s3 kb4 h3l5 h4l5 h2D
    refine ⟨_, rfl, ?_⟩
    refine ⟨_, rfl, g, rfl, dk4, fun r5 H5 r50 dk5 kb5 => ?_⟩
    have t0 := Int.emod_nonneg r5 (show (98 : Int) ≠ 0 by decide)
    have t1 := Int.emod_lt_of_pos r5 (show (0 : Int) < 98 by decide)
    have e28 : (10 : Int) ^ (28 : Int).toNat = 10000000000000000000000000000 := by decide
    have e30 : (10 : Int) ^ (30 : Int).toNat = 1000000000000000000000000000000 := by decide
    refine ⟨_, _, rfl, rfl, (show (0 : Int) < 98 by decide), (r5 % 98), rfl, by omega, by omega, for_range (lo := 0) (n := (r5 % 98).toNat) (fun i σ H6 => ∃ (pw : Int) (v6 : Option V), σ = [some (.ref g), some (.int a), some (.int b), some (.int c), some (.int pr), some (.int pw), v6, none, none] ∧ 1 ≤ pw ∧ pw ≤ 110000000000000000000000000000 ∧ H6 = H5) ⟨pr, none, rfl, by omega, by omega, rfl⟩ ?_ ?_⟩
    · rintro i σ H6 hi ⟨pw, v6, rfl, p1, p2, rfl⟩
      have cp : CPow 10 28 := ⟨by decide, by decide, by decide⟩
      refine ⟨_, rfl, _, _, rfl, rfl, cp, _, _, rfl, rfl, _, rfl, ?_⟩
      rw [e28]
      refine ite2 (fun h => ?_) (fun h => ⟨pw, _, rfl, p1, p2, rfl⟩)
      have h : pw < 10000000000000000000000000000 := of_decide_eq_true h
      refine ⟨_, rfl, _, rfl, _, _, rfl, rfl, .inr ⟨by omega, by omega⟩, pw * pr, _, rfl, ?_, ?_, rfl⟩
      · have := Int.mul_le_mul p1 (show 1 ≤ pr by omega) (by decide) (by omega)
        omega
      · have := Int.mul_le_mul (show pw ≤ 10000000000000000000000000000 by omega) prb.2 (by omega) (by decide)
        omega
    rintro σ H6 ⟨pw, v6, rfl, p1, p2, rfl⟩
    have up : ∀ {x y X Y : Int}, 1 ≤ x → x ≤ X → 1 ≤ y → y ≤ Y → 1 ≤ x * y ∧ x * y ≤ X * Y := fun {x y X Y} x1 x2 y1 y2 => by
      have h1 := Int.mul_le_mul x1 y1 (by decide) (by omega)
      exact ⟨by omega, Int.mul_le_mul x2 y2 (by omega) (by omega)⟩
    have ab := up a1 a2 b1 b2
    have ac := up a1 a2 c1 c2
    have aa := up a1 a2 a1 a2
    have aac := up aa.1 aa.2 c1 c2
    have apr := up a1 a2 (show 1 ≤ pr by omega) prb.2
    have cp : CPow 10 30 := ⟨by decide, by decide, by decide⟩
    refine ⟨_, rfl, _, rfl, _, _, rfl, rfl, .inr ⟨by omega, by omega⟩, _, rfl, _, _, rfl, rfl, .inr ⟨by omega, by omega⟩, _, _, rfl, rfl, .inr ⟨by decide, by decide⟩, _, rfl, _, _, rfl, rfl, _, _, rfl, rfl, cp, _, _, rfl, rfl, _, _, rfl, rfl, (by show (0 : Int) < 10 ^ (30 : Int).toNat - 1; rw [e30]; decide), _, _, rfl, rfl, ?_⟩
    rw [e30]
    obtain ⟨G, hG⟩ : ∃ G, (a * b * c * 720720 + a) % (1000000000000000000000000000000 - 1) = G := ⟨_, rfl⟩
    have Gb : 1 ≤ 1 + G ∧ 1 + G ≤ 1000000000000000000000000000000 := by
      have g0 := Int.emod_nonneg (a * b * c * 720720 + a) (show (1000000000000000000000000000000 - 1 : Int) ≠ 0 by decide)
      have g1 := Int.emod_lt_of_pos (a * b * c * 720720 + a) (show (0 : Int) < 1000000000000000000000000000000 - 1 by decide)
      rw [← hG]
      omega
    rw [hG]
    clear hG
    have z2 : 2 ≤ sizeLine := by decide
    refine ⟨_, rfl, _, rfl, _, _, rfl, rfl, .inr ⟨by omega, by omega⟩, _, rfl, _, rfl, _, _, rfl, rfl, .inr ⟨by omega, by omega⟩, z2, fun t1 ht1 => ?_⟩
    refine ⟨_, rfl, _, rfl, _, _, rfl, rfl, .inr ⟨by omega, by omega⟩, _, rfl, _, rfl, _, _, rfl, rfl, .inr ⟨by omega, by omega⟩, _, rfl, _, _, rfl, rfl, .inr ⟨by omega, by omega⟩, z2, fun t2 ht2 => ?_⟩
    refine ⟨_, rfl, _, rfl, _, rfl, _, _, rfl, rfl, .inr ⟨by omega, by omega⟩, z2, fun t3 ht3 => ?_⟩
    refine ⟨_, rfl, _, rfl, z2, fun t4 ht4 => ?_⟩
    refine ⟨_, rfl, _, rfl, _, _, rfl, rfl, .inr ⟨by omega, by omega⟩, _, rfl, z2, fun t5 ht5 => ?_⟩
    refine ⟨_, rfl, _, rfl, _, rfl, _, _, rfl, rfl, .inr ⟨by omega, by omega⟩, _, rfl, _, _, rfl, rfl, .inr ⟨by omega, by omega⟩, z2, fun t6 ht6 => ?_⟩
    refine ⟨(show 6 ≤ sizeLine by decide), fun l1 hl1 => ?_⟩
    have u6 := ((((((PairsUp.nil H6).snoc (x := a * b) (y := a * c) ht1).snoc (x := a * b) (y := a * a * c) ht2).snoc (x := b) (y := a * c) ht3).snoc (x := a) (y := pw) ht4).snoc (x := a * pr) (y := pw) ht5).snoc (x := pw) (y := a * a * c) ht6
    have u6 := u6.on (Same.upd_new (o := .lst [.ref t1, .ref t2, .ref t3, .ref t4, .ref t5, .ref t6]) hl1)
    refine ⟨_, rfl, _, rfl, _, rfl, z2, fun t7 ht7 => ?_⟩
    refine ⟨_, rfl, _, rfl, z2, fun t8 ht8 => ?_⟩
    refine ⟨_, rfl, _, rfl, z2, fun t9 ht9 => ?_⟩
    refine ⟨(show 3 ≤ sizeLine by decide), fun l2 hl2 => ?_⟩
    have u9 := ((u6.snoc (x := 1 + G) (y := 1 + G) ht7).snoc (x := 1 + G) (y := a) ht8).snoc (x := b) (y := 1 + G) ht9
    have u9 := u9.on (Same.upd_new (o := .lst [.ref t7, .ref t8, .ref t9]) hl2)
    have k1 := ((((Same.upd_new (o := .tup [.int (1 + G), .int (1 + G)]) ht7).trans (Same.upd_new (o := .tup [.int (1 + G), .int a]) ht8)).trans (Same.upd_new (o := .tup [.int b, .int (1 + G)]) ht9)).trans (Same.upd_new (o := .lst [.ref t7, .ref t8, .ref t9]) hl2)) l1 _ upd_same
    refine ⟨l1, l2, [.ref t1, .ref t2, .ref t3, .ref t4, .ref t5, .ref t6], [.ref t7, .ref t8, .ref t9], rfl, rfl, k1, upd_same, (show 9 ≤ sizeLine by decide), fun p hp => ?_⟩
    have u := u9.on (Same.upd_new (o := .lst ([t1, t2, t3, t4, t5, t6, t7, t8, t9].map V.ref)) hp)
    have kbF := (kb4'.trans kb5).trans (u.same.but g)
    have dkF := dk_same dk5 u.same
    have bd : ∀ r ∈ ([[a * b, a * c], [a * b, a * a * c], [b, a * c], [a, pw], [a * pr, pw], [pw, a * a * c], [1 + G, 1 + G], [1 + G, a], [b, 1 + G]] : List (List Int)), ∃ x y, r = [x, y] ∧ 1 ≤ x ∧ x ≤ 1000000000000000000000000000000 ∧ 1 ≤ y ∧ y ≤ 1000000000000000000000000000000 := fun r hr => by
      simp only [List.mem_cons, List.not_mem_nil, or_false] at hr
      rcases hr with z | z | z | z | z | z | z | z | z
      all_goals exact ⟨_, _, z, by omega, by omega, by omega, by omega⟩
    refine ⟨_, rfl, p, rfl, ⟨_, SqL.of upd_same⟩, comp_list (K := K) (a := p) (xs := [t1, t2, t3, t4, t5, t6, t7, t8, t9].map V.ref) (fun i ys σ H3 => ∃ (v w : Option V), σ = [v, w] ∧ ys = [] ∧ KeepBut g H H3 ∧ DeckAt H3 g ∧ H3 p = some (.lst ([t1, t2, t3, t4, t5, t6, t7, t8, t9].map V.ref)) ∧ TupsH H3 [t1, t2, t3, t4, t5, t6, t7, t8, t9] [[a * b, a * c], [a * b, a * a * c], [b, a * c], [a, pw], [a * pr, pw], [pw, a * a * c], [1 + G, 1 + G], [1 + G, a], [b, 1 + G]]) ⟨none, none, rfl, rfl, kbF, dkF, upd_same, u.tups⟩ (fun i ys σ H3 _ ⟨_, _, _, _, _, _, e, _⟩ => SqL.of e) ?_ ?_⟩
    · rintro i x ys σ H3 hx ⟨v, w, rfl, rfl, kb, dk, hp3, tu⟩
      rw [List.getElem?_map] at hx
      cases hxa : ([t1, t2, t3, t4, t5, t6, t7, t8, t9] : List Addr)[i]? with
      | none => rw [hxa] at hx; cases hx
      | some t =>
        rw [hxa] at hx
        cases hx
        have il := (List.getElem?_eq_some_iff.mp hxa).1
        rw [tu.1] at il
        have hr := List.getElem?_eq_getElem il
        obtain ⟨x, y, exy, x1, x2, y1, y2⟩ := bd _ (List.getElem_mem il)
        rw [exy] at hr
        have htj := tu.2 i t _ hxa hr
        refine ⟨t, _, rfl, SqT.of htj, rfl, _, _, rfl, _, _, rfl, rfl, ?_⟩
        refine ⟨_, rfl, _, rfl, _, rfl, _, rfl, x, y, rfl, x2, y2, fun _ _ d hd => ?_, fun z => by omega⟩
        refine ⟨x.toNat, y.toNat, d, ?_, by omega, by omega, by omega, by omega, hd, true, rfl, ?_⟩
        · rw [Int.toNat_of_nonneg (by omega), Int.toNat_of_nonneg (by omega)]; rfl
        exact ⟨_, _, rfl, rfl, kb, dk, hp3, tu⟩
    · rintro ys σ H3 ⟨v, w, rfl, rfl, kb, dk, hp3, tu⟩ D2 hD2
      refine ⟨Nat.zero_le _, fun e he => ?_⟩
      have s1 : Same H3 (upd H3 D2 (.lst [])) := Same.upd_new hD2
      refine ⟨D2, e, [], [], _, rfl, rfl, SqL.of ((Same.upd_new he) _ _ upd_same), SqL.of upd_same, leq_nil _ _ _ _, ?_⟩
      exact q _ (kb.trans ((s1.trans (Same.upd_new he)).but g)) (dk_same dk (s1.trans (Same.upd_new he)))
end
end My
namespace My
open PySem L2 Mth
section
variable {P : Program} {w : World} {K : PySem.W.Frag} {mg : Str → Option Value} {base : Heap} {q_TurnError q_NoTurn q_NoFit q_NoRounds q_NoNumber q_NoRoot q_TooMany q_NoKind q_NoText q_NoName q_NoRow : Addr}
def spLaw (K : PySem.W.Frag) : Sp := fun vs H Q _ => ∃ (a : Addr) (ns : List Int), vs = [.ref a] ∧ SqL K H a (ns.map V.int) ∧ ns.length ≤ 63 ∧ ∀ H', Q (.bl true) H'
theorem powers_expl {rs : List (Nat × Nat)} (h : Powers rs) : ∃ e0 e1 e2 e3 e4 e5 e6 : Nat, rs = [(2, e0), (3, e1), (5, e2), (7, e3), (11, e4), (13, e5), (1000003, e6)] ∧ e0 ≤ 20 ∧ e1 ≤ 10 ∧ e2 ≤ 6 ∧ e3 ≤ 4 ∧ e4 ≤ 3 ∧ e5 ≤ 2 ∧ e6 ≤ 1 := by
  obtain ⟨l, h⟩ := h
  match rs, l with
  | [(a0, e0), (a1, e1), (a2, e2), (a3, e3), (a4, e4), (a5, e5), (a6, e6)], _ =>
    obtain ⟨m0, h0, l0⟩ := h 0 a0 e0 rfl
    obtain ⟨m1, h1, l1⟩ := h 1 a1 e1 rfl
    obtain ⟨m2, h2, l2⟩ := h 2 a2 e2 rfl
    obtain ⟨m3, h3, l3⟩ := h 3 a3 e3 rfl
    obtain ⟨m4, h4, l4⟩ := h 4 a4 e4 rfl
    obtain ⟨m5, h5, l5⟩ := h 5 a5 e5 rfl
    obtain ⟨m6, h6, l6⟩ := h 6 a6 e6 rfl
    have q0 : ((2, 20) : Nat × Nat) = (a0, m0) := Option.some.inj h0
    have q1 : ((3, 10) : Nat × Nat) = (a1, m1) := Option.some.inj h1
    have q2 : ((5, 6) : Nat × Nat) = (a2, m2) := Option.some.inj h2
    have q3 : ((7, 4) : Nat × Nat) = (a3, m3) := Option.some.inj h3
    have q4 : ((11, 3) : Nat × Nat) = (a4, m4) := Option.some.inj h4
    have q5 : ((13, 2) : Nat × Nat) = (a5, m5) := Option.some.inj h5
    have q6 : ((1000003, 1) : Nat × Nat) = (a6, m6) := Option.some.inj h6
    obtain ⟨rfl, rfl⟩ := Prod.mk.inj q0
    obtain ⟨rfl, rfl⟩ := Prod.mk.inj q1
    obtain ⟨rfl, rfl⟩ := Prod.mk.inj q2
    obtain ⟨rfl, rfl⟩ := Prod.mk.inj q3
    obtain ⟨rfl, rfl⟩ := Prod.mk.inj q4
    obtain ⟨rfl, rfl⟩ := Prod.mk.inj q5
    obtain ⟨rfl, rfl⟩ := Prod.mk.inj q6
    exact ⟨e0, e1, e2, e3, e4, e5, e6, rfl, l0, l1, l2, l3, l4, l5, l6⟩
theorem powers_num {rs : List (Nat × Nat)} (h : Powers rs) : 1 ≤ num rs ∧ num rs ≤ 1000000000000000000000000000000 := by
  obtain ⟨e0, e1, e2, e3, e4, e5, e6, rfl, l0, l1, l2, l3, l4, l5, l6⟩ := powers_expl h
  refine ⟨num_pos _ fun x hx => ?_, ?_⟩
  · simp only [List.mem_cons, List.not_mem_nil, or_false] at hx
    rcases hx with rfl | rfl | rfl | rfl | rfl | rfl | rfl <;> exact Nat.succ_pos _
  · show 2 ^ e0 * (3 ^ e1 * (5 ^ e2 * (7 ^ e3 * (11 ^ e4 * (13 ^ e5 * (1000003 ^ e6 * 1)))))) ≤ _
    have p : ∀ {b e m : Nat}, 0 < b → e ≤ m → b ^ e ≤ b ^ m := fun hb h => Nat.pow_le_pow_right hb h
    refine Nat.le_trans (Nat.mul_le_mul (p (by decide) l0) (Nat.mul_le_mul (p (by decide) l1) (Nat.mul_le_mul (p (by decide) l2) (Nat.mul_le_mul (p (by decide) l3) (Nat.mul_le_mul (p (by decide) l4) (Nat.mul_le_mul (p (by decide) l5) (Nat.mul_le_mul (p (by decide) l6) (Nat.le_refl 1)))))))) ?_
    decide
theorem powers_bd {rs : List (Nat × Nat)} (h : Powers rs) : ∀ t ∈ rs, t.1 ≤ 1000003 ∧ t.2 ≤ 100 := fun x hx => by
  obtain ⟨e0, e1, e2, e3, e4, e5, e6, rfl, l0, l1, l2, l3, l4, l5, l6⟩ := powers_expl h
  simp only [List.mem_cons, List.not_mem_nil, or_false] at hx
  rcases hx with rfl | rfl | rfl | rfl | rfl | rfl | rfl <;> exact ⟨by dsimp only; omega, by dsimp only; omega⟩
theorem powers_both {rs qs : List (Nat × Nat)} (h : Powers rs) (h2 : Powers qs) : ∃ ts : List (Nat × Nat × Nat), ts.length = 7 ∧ ones ts = rs ∧ oths ts = qs ∧ (∀ t ∈ ts, 0 < t.1 ∧ t.1 ≤ 1000003 ∧ t.2.2 ≤ 100) ∧ (ts.map (·.1)).Pairwise Nat.Coprime := by
  obtain ⟨e0, e1, e2, e3, e4, e5, e6, rfl, l0, l1, l2, l3, l4, l5, l6⟩ := powers_expl h
  obtain ⟨f0, f1, f2, f3, f4, f5, f6, rfl, k0, k1, k2, k3, k4, k5, k6⟩ := powers_expl h2
  refine ⟨[(2, e0, f0), (3, e1, f1), (5, e2, f2), (7, e3, f3), (11, e4, f4), (13, e5, f5), (1000003, e6, f6)], rfl, rfl, rfl, fun x hx => ?_, ?_⟩
  · simp only [List.mem_cons, List.not_mem_nil, or_false] at hx
    rcases hx with rfl | rfl | rfl | rfl | rfl | rfl | rfl <;> exact ⟨by dsimp only; omega, by dsimp only; omega, by dsimp only; omega⟩
  · show List.Pairwise Nat.Coprime [2, 3, 5, 7, 11, 13, 1000003]
    decide +kernel
theorem dues_take {ts : List (Nat × Nat × Nat)} {i b o t : Nat} (h : ts[i]? = some (b, o, t)) : dues (ts.take (i + 1)) = dues (ts.take i) ++ (if 0 < o then [(b, t)] else []) := by
  unfold dues oths
  rw [List.take_succ, h, List.filter_append, List.map_append]
  congr 1
  by_cases z : 0 < o
  · rw [if_pos z]
    show List.map _ (List.filter _ [(b, o, t)]) = _
    rw [List.filter_cons_of_pos (by simpa using z)]; rfl
  · rw [if_neg z]
    show List.map _ (List.filter _ [(b, o, t)]) = _
    rw [List.filter_cons_of_neg (by simpa using z)]; rfl
theorem tups_snoc {H : Hp} {as : List Addr} {rs : List (List Int)} (h : TupsH H as rs) {p : Addr} {r : List Int} (hp : H p = some (.tup (r.map V.int))) : TupsH H (as ++ [p]) (rs ++ [r]) := by
  refine ⟨by rw [List.length_append, List.length_append, h.1]; rfl, fun j a q h1 h2 => ?_⟩
  have e := h.1
  rcases Nat.lt_or_ge j as.length with z | z
  · rw [List.getElem?_append_left z] at h1
    rw [List.getElem?_append_left (by omega)] at h2
    exact h.2 j a q h1 h2
  · rw [List.getElem?_append_right z] at h1
    rw [List.getElem?_append_right (by omega)] at h2
    have ej : j - as.length = 0 := by
      have := (List.getElem?_eq_some_iff.mp h1).1
      simp at this; omega
    rw [ej] at h1
    rw [show j - rs.length = 0 by omega] at h2
    cases h1; cases h2
    exact hp
theorem leq_flat (K : PySem.W.Frag) (H : Hp) (n : Nat) (xs : List V) (h : xs.all flatV = true) (h2 : ∀ x ∈ xs, eqV x x = true) : LEq K H n xs xs true := by
  refine .inr ⟨fun _ => true, rfl, fun j x y e1 e2 => ?_, by rw [eq_comm, all_range_iff]; exact fun _ _ => rfl⟩
  rw [e1] at e2
  cases e2
  have m := List.mem_of_getElem? e1
  rw [← h2 x m]
  exact .flat (List.all_eq_true.mp h x m) (List.all_eq_true.mp h x m)
theorem sc_law : FnScope ["script", "k", "deck", "one", "other", "due", "found", "l", "m", "far", "bad", "words"] ["script"] (defScope s_law) := ⟨rfl, rfl, rfl, by decide +kernel, rfl, by decide +kernel, by decide +kernel⟩
theorem nd_j_other_one_law : (["j", "other", "one"] : List Str).Nodup := by decide +kernel
theorem ok_law {f : Addr} {fd : FuncData} (F : Fun K "law" "law" s_law f fd) (B : Bl mg) (c_law_deck : Cal P w K mg base "_law_deck" 2 ["cell", "many"] spDeck) (c_law_cell_at : Cal P w K mg base "_law_cell_at" 1 ["script", "k"] (spCell K)) (c_law_drawn : Cal P w K mg base "_law_drawn" 2 ["deck"] spDrawn) (c_law_number : Cal P w K mg base "_law_number" 1 ["powers"] spNum) (c_law_asked : Cal P w K mg base "_law_asked" 4 ["l", "m"] spAsked) (c_law_next : Cal P w K mg base "_law_next" 1 ["deck"] spNext) (c_law_tried : Cal P w K mg base "_law_tried" 2 ["l", "m"] spTried) (c_law_great_right : Cal P w K mg base "_law_great_right" 5 ["deck"] spGreat) : FnOk P w K mg base CX0 6 f fd ["script"] (spLaw K) := by
  refine F.ok sc_law (fun vs H Q E h => ?_) (fun cdv A outer s H vs Q E hr h => ?_)
  · obtain ⟨sc, ns, rfl, hsc, hns, q⟩ := h
    rfl
  · obtain ⟨sc, ns, rfl, hsc, hns, q⟩ := h
    have hr_law_deck : Room 2 _ := hr.mono (by decide)
    have hr_law_cell_at : Room 1 _ := hr.mono (by decide)
    have hr_law_drawn : Room 2 _ := hr.mono (by decide)
    have hr_law_number : Room 1 _ := hr.mono (by decide)
    have hr_law_asked : Room 4 _ := hr.mono (by decide)
    have hr_law_next : Room 1 _ := hr.mono (by decide)
    have hr_law_tried : Room 2 _ := hr.mono (by decide)
    have hr_law_great_right : Room 5 _ := hr.mono (by decide)
    have hu := hu_of hr
    refine ⟨_, pss_cons (ps_for PassesOwn.never rfl (pi_range1 (by rfl) B.range (pa_cons (pe_max2 rfl B.max (pa_cons pe_int (pa_cons (pe_min2 rfl B.min (pa_cons (pe_lenL B.len (pa_cons (pv 0) pa_nil)) (pa_cons pe_int pa_nil))) pa_nil))) pa_nil)) (pg_name (i := 1) sc_law.nd rfl (Or.inl rfl))
        (pss_cons (ps_set (i := 2) sc_law.nd rfl (Or.inl rfl) (pe_cal c_law_deck hr_law_deck (pa_cons (pe_cal c_law_cell_at hr_law_cell_at (pa_cons (pv 0) (pa_cons (pv 1) pa_nil))) (pa_cons pe_int pa_nil))))
        (pss_cons (ps_set (i := 3) sc_law.nd rfl (Or.inr rfl) (pe_cal c_law_drawn hr_law_drawn (pa_cons (pv 2) pa_nil)))
        (pss_cons (ps_set (i := 4) sc_law.nd rfl (Or.inr rfl) (pe_cal c_law_drawn hr_law_drawn (pa_cons (pv 2) pa_nil)))
        (pss_cons (ps_set (i := 5) sc_law.nd rfl (Or.inl rfl) (pe_cal c_law_number hr_law_number (pa_cons (pe_comp (N := ["j", "other", "one"]) (nl := 1) (fr := [4, 3]) rfl .of (pi_range1 (by rfl) B.range (pa_cons (pe_lenL B.len (pa_cons (pv 3) pa_nil)) pa_nil)) (fun _ _ _ _ _ => pg_name (i := 0) nd_j_other_one_law rfl (Or.inl rfl)) (fun _ _ _ _ _ => pifs_one (pt_cmpR op_gt (pe_ix (r := rIxT K) ix_tup (pe_ix (r := rIxL K) ix_list (pv 2) (pv 0) (fun _ _ => rfl)) pe_int (fun _ _ => rfl)) pe_int (nomark _))) (fun _ _ _ _ _ => (pe_ix (r := rIxL K) ix_list (pv 1) (pv 0) (fun _ _ => rfl)))) pa_nil)))
        (pss_cons (ps_set (i := 6) sc_law.nd rfl (Or.inl rfl) (pe_cal c_law_asked hr_law_asked (pa_cons (pe_cal c_law_number hr_law_number (pa_cons (pv 3) pa_nil)) (pa_cons (pe_cal c_law_number hr_law_number (pa_cons (pv 4) pa_nil)) pa_nil))))
        (pss_cons (ps_if (pw_or (pt_not (pt_val (pe_isi B.isi (pa_cons (pv 6) (pa_cons (pe_tyInt B.int) pa_nil))))) (pw_or (pt_val (pe_isi B.isi (pa_cons (pv 6) (pa_cons (pe_tyBool B.bool) pa_nil)))) (pw_or1 (pt_cmpR op_ne (pv 6) (pv 5) (nomark _))))).pt (pss_one (ps_ret pe_bl)) pss_nil)
        (pss_cons (ps_set (i := 7) sc_law.nd rfl (Or.inl rfl) (pe_op op_add pe_int (pe_op op_mod (pe_cal c_law_next hr_law_next (pa_cons (pv 2) pa_nil)) pe_int)))
        (pss_cons (ps_set (i := 8) sc_law.nd rfl (Or.inl rfl) (pe_op op_add pe_int (pe_op op_mod (pe_cal c_law_next hr_law_next (pa_cons (pv 2) pa_nil)) pe_int)))
        (pss_cons (ps_if (pt_cmpR op_ne (pe_cal c_law_asked hr_law_asked (pa_cons (pv 7) (pa_cons (pv 8) pa_nil))) (pe_cal c_law_tried hr_law_tried (pa_cons (pv 7) (pa_cons (pv 8) pa_nil))) (nomark _)) (pss_one (ps_ret pe_bl)) pss_nil)
        (pss_cons (ps_if (pt_not (pt_val (pe_cal c_law_great_right hr_law_great_right (pa_cons (pv 2) pa_nil)))) (pss_one (ps_ret pe_bl)) pss_nil)
        (pss_cons (ps_set (i := 9) sc_law.nd rfl (Or.inl rfl) (pe_op op_mod (pe_cal c_law_cell_at hr_law_cell_at (pa_cons (pv 0) (pa_cons (pv 1) pa_nil))) (pe_op op_pow pe_int pe_int)))
        (pss_one (ps_for PassesOwn.never rfl (pi_tup (pe_tup (pa_cons pe_int (pa_cons (pe_un un_neg pe_int) (pa_cons (pe_op op_sub (pe_un un_neg pe_int) (pv 9)) pa_nil))))) (pg_name (i := 10) sc_law.nd rfl (Or.inl rfl))
          (pss_cons (ps_set (i := 11) sc_law.nd rfl (Or.inl rfl) (pe_lst (pa_cons (pe_cal c_law_asked hr_law_asked (pa_cons (pv 10) (pa_cons (pv 8) pa_nil))) (pa_cons (pe_cal c_law_asked hr_law_asked (pa_cons (pv 7) (pa_cons (pv 10) pa_nil))) (pa_cons (pe_cal c_law_asked hr_law_asked (pa_cons (pv 10) (pa_cons (pv 10) pa_nil))) pa_nil)))))
          (pss_one (ps_if (pt_cmpR (op_neL 0 hu) (pv 11) (pe_op op_rep (pe_lst (pa_cons pe_str pa_nil)) pe_int) (nomark _)) (pss_one (ps_ret pe_bl)) pss_nil)))))))))))))))))
      (pss_one (ps_ret pe_bl)), ?_⟩
    refine ⟨_, rfl, sc, _, rfl, .inl hsc, _, 12, rfl, 1, _, rfl, _, rfl, ?_⟩
    obtain ⟨mx, hmx, hm1, hm2⟩ := maxmin (n := 12) (c := ((ns.map V.int).length : Int)) (by decide) (by omega)
    rw [hmx]
    refine ⟨by omega, by omega, for_range (lo := 0) (n := mx.toNat) (fun i σ H2 => ∃ v1 v2 v3 v4 v5 v6 v7 v8 v9 v10 v11 : Option V, σ = [some (.ref sc), v1, v2, v3, v4, v5, v6, v7, v8, v9, v10, v11] ∧ Same H H2)
      ⟨none, none, none, none, none, none, none, none, none, none, none, rfl, Same.refl H⟩ ?_ (fun σ H2 ⟨_, _, _, _, _, _, _, _, _, _, _, _, _⟩ => q H2)⟩
    rintro i σ H2 hi ⟨v1, v2, v3, v4, v5, v6, v7, v8, v9, v10, v11, rfl, s02⟩
    refine ⟨_, rfl, _, rfl, sc, ns, _, rfl, s02.seq hsc, by omega, fun z => ?_⟩
    refine ⟨z, 60, rfl, by decide, fun g H3 hg s23 D3 => ?_⟩
    have hg0 : H g = none := s02.free hg
    have s03 := s02.trans s23
    refine ⟨_, rfl, g, rfl, D3, fun l1 as1 rs1 H4 hl1 fa1 p1 kb4 D4 h4l t4 => ?_⟩
    refine ⟨_, rfl, g, rfl, D4, fun l2 as2 rs2 H5 hl2 fa2 p2 kb5 D5 h5l t5 => ?_⟩
    have h5l1 := kb5 l1 _ h4l (dk_ne D3 hl1).symm
    have t51 : TupsH H5 as1 (rs1.map fun t => [(t.1 : Int), (t.2 : Int)]) := ⟨t4.1, fun j a r ha hr => kb5 a _ (t4.2 j a r ha hr) (dk_ne D3 (fa1 a (List.mem_of_getElem? ha))).symm⟩
    have s05 : Same H H5 := (s03.kb kb4 hg0).kb kb5 hg0
    obtain ⟨ts, lt, e1, e2, tb, tc⟩ := powers_both p1 p2
    have la1 : as1.length = 7 := by rw [t4.1, List.length_map]; exact p1.1
    have la2 : as2.length = 7 := by rw [t5.1, List.length_map]; exact p2.1
    refine ⟨_, rfl, l1, _, rfl, .inl (SqL.of h5l1), (7 : Int), by rw [List.length_map, la1]; rfl, by decide, by decide, comp_range (lo := 0) (n := 7) (fun i ys σ H6 => ∃ (v : Option V) (as : List Addr), σ = [v, some (.ref l2), some (.ref l1)] ∧ ys = as.map V.ref ∧ as.length ≤ i ∧ TupsH H6 as ((dues (ts.take i)).map fun t => [(t.1 : Int), (t.2 : Int)]) ∧ H6 = H5) ⟨none, [], rfl, rfl, Nat.le_refl _, ⟨rfl, fun j a r z => by simp at z⟩, rfl⟩ ?_ ?_⟩
    · rintro i ys σ H6 hi ⟨v, as, rfl, rfl, la, tu, rfl⟩
      have hsz : 1000 < sizeLine := by decide
      have e0 : (0 : Int) + (i : Int) = (i : Int) := by omega
      obtain ⟨⟨b, o, t⟩, hbot⟩ : ∃ x, ts[i]? = some x := ⟨_, List.getElem?_eq_getElem (by omega)⟩
      have ho : rs1[i]? = some (b, o) := by rw [← e1]; unfold ones; rw [List.getElem?_map, hbot]; rfl
      have ht : rs2[i]? = some (b, t) := by rw [← e2]; unfold oths; rw [List.getElem?_map, hbot]; rfl
      obtain ⟨x1, hx1⟩ : ∃ x, as1[i]? = some x := ⟨_, List.getElem?_eq_getElem (by omega)⟩
      obtain ⟨x2, hx2⟩ : ∃ x, as2[i]? = some x := ⟨_, List.getElem?_eq_getElem (by omega)⟩
      have g1 := t51.2 i x1 [(b : Int), (o : Int)] hx1 (by rw [List.getElem?_map, ho]; rfl)
      have g2 := t5.2 i x2 [(b : Int), (t : Int)] hx2 (by rw [List.getElem?_map, ht]; rfl)
      rw [e0]
      refine ⟨_, rfl, _, rfl, l1, _, _, _, rfl, rfl, SqL.of h5l1, atI_nat (j := i) (by rw [List.getElem?_map, hx1]; rfl), x1, _, _, _, rfl, rfl, SqT.of g1, atI_nat (j := 1) rfl, _, _, rfl, rfl, _, rfl, ?_⟩
      refine ite2 (fun h => ?_) (fun h => ?_)
      · have h : (0 : Int) < (o : Int) := of_decide_eq_true h
        refine ⟨_, rfl, _, rfl, l2, _, _, _, rfl, rfl, SqL.of h5l, atI_nat (j := i) (by rw [List.getElem?_map, hx2]; rfl), by rw [List.length_map]; omega, _, as ++ [x2], rfl, by rw [List.map_append]; rfl, by rw [List.length_append]; exact Nat.succ_le_succ la, ?_, rfl⟩
        rw [dues_take hbot, if_pos (by omega), List.map_append]
        exact tups_snoc tu g2
      · have h : ¬ (0 : Int) < (o : Int) := fun z => h (decide_eq_true z)
        refine ⟨_, as, rfl, rfl, by omega, ?_, rfl⟩
        rw [dues_take hbot, if_neg (by omega), List.append_nil]
        exact tu
    rintro ys σ H6 ⟨v, as, rfl, rfl, la, tu, rfl⟩ D hD
    rw [List.take_of_length_le (by omega)] at tu
    have sD : Same H6 (upd H6 D (.lst (as.map V.ref))) := Same.upd_new hD
    have dsub : ∀ t ∈ dues ts, t.1 ≤ 1000003 ∧ t.2 ≤ 100 := fun t h => by
      obtain ⟨y, hy, rfl⟩ := List.mem_map.mp h
      exact (tb y (List.mem_filter.mp hy).1).2
    have ldu : (dues ts).length ≤ 100 := by
      unfold dues oths
      rw [List.length_map]
      exact Nat.le_trans (List.length_filter_le _ _) (by omega)
    refine ⟨D, as, dues ts, rfl, upd_same, tu.keep sD, dsub, ldu, ?_⟩
    obtain ⟨H7, e7⟩ : ∃ Hn, Hn = upd H6 D (.lst (as.map V.ref)) := ⟨_, rfl⟩
    rw [← e7] at sD ⊢
    clear e7
    have s07 := s05.trans sD
    have D7 := dk_same D5 sD
    obtain ⟨n1, n2⟩ := powers_num p1
    obtain ⟨m1, m2⟩ := powers_num p2
    refine ⟨_, rfl, l1, as1, rs1, rfl, sD _ _ h5l1, t51.keep sD, powers_bd p1, by rw [p1.1]; decide, _, rfl, l2, as2, rs2, rfl, sD _ _ h5l, t5.keep sD, powers_bd p2, by rw [p2.1]; decide, (num rs1 : Int), (num rs2 : Int), rfl, by omega, by omega, fun _ _ d hd => ?_, fun z => by omega⟩
    have lr : IsLR (num rs1) (num rs2) (num (dues ts)) := by
      rw [← e1, ← e2]
      exact lr_num (fun t h => (tb t h).1) tc (K := 100) (fun t h => (tb t h).2.2)
    rw [Int.toNat_natCast, Int.toNat_natCast] at hd
    rw [hd.uniq lr]
    refine ⟨_, rfl, _, "int", _, true, rfl, .int _, kit_same K "int", true, rfl, ?_⟩
    refine iteF ⟨_, rfl, _, "bool", _, false, rfl, .int _, kit_int_bool K, false, rfl, ?_⟩
    refine iteF ⟨_, rfl, _, rfl, rfl, _, rfl, ?_⟩
    refine iteNS rfl ?_
    refine ⟨_, rfl, g, rfl, D7, fun r1 H8 r10 D8 kb8 => ⟨_, _, rfl, rfl, (show (0 : Int) < 9 by decide), _, _, rfl, rfl, ?_⟩⟩
    refine ⟨_, rfl, g, rfl, D8, fun r2 H9 r20 D9 kb9 => ⟨_, _, rfl, rfl, (show (0 : Int) < 20 by decide), _, _, rfl, rfl, ?_⟩⟩
    have a0 := Int.emod_nonneg r1 (show (9 : Int) ≠ 0 by decide)
    have a1 := Int.emod_lt_of_pos r1 (show (0 : Int) < 9 by decide)
    have b0 := Int.emod_nonneg r2 (show (20 : Int) ≠ 0 by decide)
    have b1 := Int.emod_lt_of_pos r2 (show (0 : Int) < 20 by decide)
    have s09 : Same H H9 := (s07.kb kb8 hg0).kb kb9 hg0
    refine ⟨_, rfl, _, rfl, 1 + r1 % 9, 1 + r2 % 20, rfl, by omega, by omega, fun _ _ d2 hd2 => ?_, fun z => by omega⟩
    refine ⟨_, rfl, _, rfl, (1 + r1 % 9).toNat, (1 + r2 % 20).toNat, d2, ?_, by omega, by omega, by omega, by omega, hd2, fun H10 s10 => ?_⟩
    · rw [Int.toNat_of_nonneg (by omega), Int.toNat_of_nonneg (by omega)]; rfl
    refine ⟨rfl, _, rfl, ?_⟩
    refine iteNS rfl ?_
    refine ⟨_, rfl, g, rfl, dk_same D9 s10, fun H11 kb11 D11 => ⟨true, rfl, ?_⟩⟩
    refine iteF ?_
    have s011 : Same H H11 := (s09.trans s10).kb kb11 hg0
    have cp : CPow 10 29 := ⟨by decide, by decide, by decide⟩
    have e29 : (10 : Int) ^ (29 : Int).toNat = 100000000000000000000000000000 := by decide
    refine ⟨_, rfl, _, rfl, sc, ns, _, rfl, s011.seq hsc, by omega, fun zf => ⟨_, _, rfl, rfl, cp, _, _, rfl, rfl, (by show (0 : Int) < 10 ^ (29 : Int).toNat; rw [e29]; decide), ?_⟩⟩
    rw [e29]
    have f0 := Int.emod_nonneg zf (show (100000000000000000000000000000 : Int) ≠ 0 by decide)
    refine ⟨_, rfl, _, rfl, _, rfl, _, _, rfl, rfl, (show 3 ≤ sizeLine by decide), fun t ht => ?_⟩
    have sT : Same H11 (upd H11 t (.tup [.int 0, .int (-1), .int (-1 - (zf % 100000000000000000000000000000))])) := Same.upd_new ht
    refine ⟨t, rfl, ⟨_, SqT.of upd_same⟩, for_tup (K := K) (a := t) (xs := [.int 0, .int (-1), .int (-1 - (zf % 100000000000000000000000000000))]) (fun j σ H12 => ∃ (v2 v3 v4 v5 v6 v9 v10 v11 : Option V), σ = [some (.ref sc), some (.int ((0 : Int) + (i : Int))), v2, v3, v4, v5, v6, some (.int (1 + r1 % 9)), some (.int (1 + r2 % 20)), v9, v10, v11] ∧ Same H H12 ∧ H12 t = some (.tup [.int 0, .int (-1), .int (-1 - (zf % 100000000000000000000000000000))])) ⟨_, _, _, _, _, _, _, _, rfl, s011.trans sT, upd_same⟩ (fun j σ H12 _ ⟨_, _, _, _, _, _, _, _, _, _, e⟩ => SqT.of e) ?_ ?_⟩
    · rintro j x σ H12 hx ⟨v2, v3, v4, v5, v6, v9, v10, v11, rfl, s12, h12t⟩
      obtain ⟨bad, rfl, bn⟩ : ∃ bad : Int, x = .int bad ∧ bad < 1 := by
        have := List.mem_of_getElem? hx
        simp only [List.mem_cons, List.not_mem_nil, or_false] at this
        rcases this with z | z | z
        · exact ⟨_, z, by decide⟩
        · exact ⟨_, z, by decide⟩
        · exact ⟨_, z, by omega⟩
      refine ⟨_, rfl, _, rfl, bad, 1 + r2 % 20, rfl, by omega, by omega, fun z => by omega, fun _ H13 s13 => ?_⟩
      refine ⟨_, rfl, _, rfl, 1 + r1 % 9, bad, rfl, by omega, by omega, fun _ z => by omega, fun _ H14 s14 => ?_⟩
      refine ⟨_, rfl, _, rfl, bad, bad, rfl, by omega, by omega, fun z => by omega, fun _ H15 s15 => ?_⟩
      refine ⟨(show 3 ≤ sizeLine by decide), fun w hw => ?_⟩
      refine ⟨_, rfl, (show 1 ≤ sizeLine by decide), fun e he => ?_⟩
      refine ⟨e, 3, _, rfl, rfl, upd_same, by decide, by decide, (show 3 ≤ sizeLine by decide), fun p hp => ?_⟩
      have sw := (Same.upd_new (o := .lst [.str "NoNumber"]) he).trans (Same.upd_new (o := .lst [.str "NoNumber", .str "NoNumber", .str "NoNumber"]) hp)
      refine ⟨w, p, [.str "NoNumber", .str "NoNumber", .str "NoNumber"], [.str "NoNumber", .str "NoNumber", .str "NoNumber"], true, rfl, rfl, SqL.of (sw _ _ upd_same), SqL.of upd_same, leq_flat K _ _ _ rfl (by decide), _, rfl, ?_⟩
      have sa := (((s13.trans s14).trans s15).trans (Same.upd_new (o := .lst [.str "NoNumber", .str "NoNumber", .str "NoNumber"]) hw)).trans sw
      exact iteF ⟨_, _, _, _, _, _, _, _, rfl, s12.trans sa, sa _ _ h12t⟩
    · rintro σ H12 ⟨v2, v3, v4, v5, v6, v9, v10, v11, rfl, s12, h12t⟩
      exact ⟨_, _, _, _, _, _, _, _, _, _, _, rfl, s12⟩
end
end My
namespace My
open PySem L2 Mth
theorem all_mk {l : PySem.W.OpenLaw} {w : World} {K : PySem.W.Frag} {h : Heap} {mg : Str → Option Value} {fa f0 f1 f2 f3 f4 f5 f6 f7 f8 f9 f10 f11 f12 f13 f14 f15 f16 f17 : Addr} (X : K.In h) (G : h.Ns mainGlobals mg) (hfa : mg "law" = some (.ref fa))
    {q_TurnError q_NoTurn q_NoFit q_NoRounds q_NoNumber q_NoRoot q_TooMany q_NoKind q_NoText q_NoName q_NoRow : Addr}
    {od0 an0 od1 an1 od2 an2 od3 an3 od4 an4 od5 an5 od6 an6 od7 an7 od8 an8 od9 an9 od10 an10 od11 an11 od12 an12 od13 an13 od14 an14 od15 an15 od16 an16 od17 an17 : Option Addr} {sl0 sl1 sl2 sl3 sl4 sl5 sl6 sl7 sl8 sl9 sl10 sl11 sl12 sl13 sl14 sl15 sl16 sl17 : Array (Option Value)} {oc0 kV0 dc0 pm0 cd0 ct0 oc1 kV1 dc1 pm1 cd1 ct1 oc2 kV2 dc2 pm2 cd2 ct2 oc3 kV3 dc3 pm3 cd3 ct3 oc4 kV4 dc4 pm4 cd4 ct4 oc5 kV5 dc5 pm5 cd5 ct5 oc6 kV6 dc6 pm6 cd6 ct6 oc7 kV7 dc7 pm7 cd7 ct7 oc8 kV8 dc8 pm8 cd8 ct8 oc9 kV9 dc9 pm9 cd9 ct9 oc10 kV10 dc10 pm10 cd10 ct10 oc11 kV11 dc11 pm11 cd11 ct11 oc12 kV12 dc12 pm12 cd12 ct12 oc13 kV13 dc13 pm13 cd13 ct13 oc14 kV14 dc14 pm14 cd14 ct14 oc15 kV15 dc15 pm15 cd15 ct15 oc16 kV16 dc16 pm16 cd16 ct16 oc17 kV17 dc17 pm17 cd17 ct17 : Value}
    (a0 : PySem.W.nsIn K mainGlobals "is_whole" = some (some (.ref f0))) (l0 : K.lookup f0 = some ⟨oc0, od0, .func (PySem.W.fnOf "is_whole" "is_whole" (defArgs s_is_whole) (defBody s_is_whole) (defScope s_is_whole) .none kV0 dc0 pm0 an0 cd0 ct0), sl0⟩) (c0 : PySem.W.codeIn K cd0 "is_whole" = true) (k0 : PySem.W.keepIn K (.ref f0) = true)
    (a1 : PySem.W.nsIn K mainGlobals "must_be_from_one" = some (some (.ref f1))) (l1 : K.lookup f1 = some ⟨oc1, od1, .func (PySem.W.fnOf "must_be_from_one" "must_be_from_one" (defArgs s_must_be_from_one) (defBody s_must_be_from_one) (defScope s_must_be_from_one) .none kV1 dc1 pm1 an1 cd1 ct1), sl1⟩) (c1 : PySem.W.codeIn K cd1 "must_be_from_one" = true) (k1 : PySem.W.keepIn K (.ref f1) = true)
    (a2 : PySem.W.nsIn K mainGlobals "greatest_part" = some (some (.ref f2))) (l2 : K.lookup f2 = some ⟨oc2, od2, .func (PySem.W.fnOf "greatest_part" "greatest_part" (defArgs s_greatest_part) (defBody s_greatest_part) (defScope s_greatest_part) .none kV2 dc2 pm2 an2 cd2 ct2), sl2⟩) (c2 : PySem.W.codeIn K cd2 "greatest_part" = true) (k2 : PySem.W.keepIn K (.ref f2) = true)
    (a3 : PySem.W.nsIn K mainGlobals "least_right" = some (some (.ref f3))) (l3 : K.lookup f3 = some ⟨oc3, od3, .func (PySem.W.fnOf "least_right" "least_right" (defArgs s_least_right) (defBody s_least_right) (defScope s_least_right) .none kV3 dc3 pm3 an3 cd3 ct3), sl3⟩) (c3 : PySem.W.codeIn K cd3 "least_right" = true) (k3 : PySem.W.keepIn K (.ref f3) = true)
    (a4 : PySem.W.nsIn K mainGlobals "_law_cell_at" = some (some (.ref f4))) (l4 : K.lookup f4 = some ⟨oc4, od4, .func (PySem.W.fnOf "_law_cell_at" "_law_cell_at" (defArgs s_law_cell_at) (defBody s_law_cell_at) (defScope s_law_cell_at) .none kV4 dc4 pm4 an4 cd4 ct4), sl4⟩) (c4 : PySem.W.codeIn K cd4 "_law_cell_at" = true) (k4 : PySem.W.keepIn K (.ref f4) = true)
    (a5 : PySem.W.nsIn K mainGlobals "_law_stir" = some (some (.ref f5))) (l5 : K.lookup f5 = some ⟨oc5, od5, .func (PySem.W.fnOf "_law_stir" "_law_stir" (defArgs s_law_stir) (defBody s_law_stir) (defScope s_law_stir) .none kV5 dc5 pm5 an5 cd5 ct5), sl5⟩) (c5 : PySem.W.codeIn K cd5 "_law_stir" = true) (k5 : PySem.W.keepIn K (.ref f5) = true)
    (a6 : PySem.W.nsIn K mainGlobals "_law_deck" = some (some (.ref f6))) (l6 : K.lookup f6 = some ⟨oc6, od6, .func (PySem.W.fnOf "_law_deck" "_law_deck" (defArgs s_law_deck) (defBody s_law_deck) (defScope s_law_deck) .none kV6 dc6 pm6 an6 cd6 ct6), sl6⟩) (c6 : PySem.W.codeIn K cd6 "_law_deck" = true) (k6 : PySem.W.keepIn K (.ref f6) = true)
    (a7 : PySem.W.nsIn K mainGlobals "_law_next" = some (some (.ref f7))) (l7 : K.lookup f7 = some ⟨oc7, od7, .func (PySem.W.fnOf "_law_next" "_law_next" (defArgs s_law_next) (defBody s_law_next) (defScope s_law_next) .none kV7 dc7 pm7 an7 cd7 ct7), sl7⟩) (c7 : PySem.W.codeIn K cd7 "_law_next" = true) (k7 : PySem.W.keepIn K (.ref f7) = true)
    (a8 : PySem.W.nsIn K mainGlobals "_law_word" = some (some (.ref f8))) (l8 : K.lookup f8 = some ⟨oc8, od8, .func (PySem.W.fnOf "_law_word" "_law_word" (defArgs s_law_word) (defBody s_law_word) (defScope s_law_word) .none kV8 dc8 pm8 an8 cd8 ct8), sl8⟩) (c8 : PySem.W.codeIn K cd8 "_law_word" = true) (k8 : PySem.W.keepIn K (.ref f8) = true)
    (a9 : PySem.W.nsIn K mainGlobals "_law_asked" = some (some (.ref f9))) (l9 : K.lookup f9 = some ⟨oc9, od9, .func (PySem.W.fnOf "_law_asked" "_law_asked" (defArgs s_law_asked) (defBody s_law_asked) (defScope s_law_asked) .none kV9 dc9 pm9 an9 cd9 ct9), sl9⟩) (c9 : PySem.W.codeIn K cd9 "_law_asked" = true) (k9 : PySem.W.keepIn K (.ref f9) = true)
    (a10 : PySem.W.nsIn K mainGlobals "_law_drawn" = some (some (.ref f10))) (l10 : K.lookup f10 = some ⟨oc10, od10, .func (PySem.W.fnOf "_law_drawn" "_law_drawn" (defArgs s_law_drawn) (defBody s_law_drawn) (defScope s_law_drawn) .none kV10 dc10 pm10 an10 cd10 ct10), sl10⟩) (c10 : PySem.W.codeIn K cd10 "_law_drawn" = true) (k10 : PySem.W.keepIn K (.ref f10) = true)
    (a11 : PySem.W.nsIn K mainGlobals "_law_number" = some (some (.ref f11))) (l11 : K.lookup f11 = some ⟨oc11, od11, .func (PySem.W.fnOf "_law_number" "_law_number" (defArgs s_law_number) (defBody s_law_number) (defScope s_law_number) .none kV11 dc11 pm11 an11 cd11 ct11), sl11⟩) (c11 : PySem.W.codeIn K cd11 "_law_number" = true) (k11 : PySem.W.keepIn K (.ref f11) = true)
    (a12 : PySem.W.nsIn K mainGlobals "_law_parts_both" = some (some (.ref f12))) (l12 : K.lookup f12 = some ⟨oc12, od12, .func (PySem.W.fnOf "_law_parts_both" "_law_parts_both" (defArgs s_law_parts_both) (defBody s_law_parts_both) (defScope s_law_parts_both) .none kV12 dc12 pm12 an12 cd12 ct12), sl12⟩) (c12 : PySem.W.codeIn K cd12 "_law_parts_both" = true) (k12 : PySem.W.keepIn K (.ref f12) = true)
    (a13 : PySem.W.nsIn K mainGlobals "_law_tried" = some (some (.ref f13))) (l13 : K.lookup f13 = some ⟨oc13, od13, .func (PySem.W.fnOf "_law_tried" "_law_tried" (defArgs s_law_tried) (defBody s_law_tried) (defScope s_law_tried) .none kV13 dc13 pm13 an13 cd13 ct13), sl13⟩) (c13 : PySem.W.codeIn K cd13 "_law_tried" = true) (k13 : PySem.W.keepIn K (.ref f13) = true)
    (a14 : PySem.W.nsIn K mainGlobals "_law_shared" = some (some (.ref f14))) (l14 : K.lookup f14 = some ⟨oc14, od14, .func (PySem.W.fnOf "_law_shared" "_law_shared" (defArgs s_law_shared) (defBody s_law_shared) (defScope s_law_shared) .none kV14 dc14 pm14 an14 cd14 ct14), sl14⟩) (c14 : PySem.W.codeIn K cd14 "_law_shared" = true) (k14 : PySem.W.keepIn K (.ref f14) = true)
    (a15 : PySem.W.nsIn K mainGlobals "_law_fits" = some (some (.ref f15))) (l15 : K.lookup f15 = some ⟨oc15, od15, .func (PySem.W.fnOf "_law_fits" "_law_fits" (defArgs s_law_fits) (defBody s_law_fits) (defScope s_law_fits) .none kV15 dc15 pm15 an15 cd15 ct15), sl15⟩) (c15 : PySem.W.codeIn K cd15 "_law_fits" = true) (k15 : PySem.W.keepIn K (.ref f15) = true)
    (a16 : PySem.W.nsIn K mainGlobals "_law_great_right" = some (some (.ref f16))) (l16 : K.lookup f16 = some ⟨oc16, od16, .func (PySem.W.fnOf "_law_great_right" "_law_great_right" (defArgs s_law_great_right) (defBody s_law_great_right) (defScope s_law_great_right) .none kV16 dc16 pm16 an16 cd16 ct16), sl16⟩) (c16 : PySem.W.codeIn K cd16 "_law_great_right" = true) (k16 : PySem.W.keepIn K (.ref f16) = true)
    (a17 : PySem.W.nsIn K mainGlobals "law" = some (some (.ref f17))) (l17 : K.lookup f17 = some ⟨oc17, od17, .func (PySem.W.fnOf "law" "law" (defArgs s_law) (defBody s_law) (defScope s_law) .none kV17 dc17 pm17 an17 cd17 ct17), sl17⟩) (c17 : PySem.W.codeIn K cd17 "law" = true) (k17 : PySem.W.keepIn K (.ref f17) = true)
    (z0 : PySem.W.nsIn K mainGlobals "len" = some none)
    (z1 : PySem.W.nsIn K mainGlobals "isinstance" = some none)
    (z2 : PySem.W.nsIn K mainGlobals "int" = some none)
    (z3 : PySem.W.nsIn K mainGlobals "bool" = some none)
    (z4 : PySem.W.nsIn K mainGlobals "list" = some none)
    (z5 : PySem.W.nsIn K mainGlobals "range" = some none)
    (z6 : PySem.W.nsIn K mainGlobals "sum" = some none)
    (z7 : PySem.W.nsIn K mainGlobals "min" = some none)
    (z8 : PySem.W.nsIn K mainGlobals "max" = some none)
    (z9 : PySem.W.nsIn K mainGlobals "enumerate" = some none)
    (z10 : PySem.W.nsIn K mainGlobals "zip" = some none)
    (z11 : PySem.W.nsIn K mainGlobals "sorted" = some none)
    (z12 : PySem.W.nsIn K mainGlobals "tuple" = some none)
    (z13 : PySem.W.nsIn K mainGlobals "str" = some none)
    (z14 : PySem.W.nsIn K mainGlobals "repr" = some none)
    (z15 : PySem.W.nsIn K mainGlobals "all" = some none)
    (z16 : PySem.W.nsIn K mainGlobals "any" = some none)
    (z17 : PySem.W.nsIn K mainGlobals "set" = some none)
    (z18 : PySem.W.nsIn K mainGlobals "dict" = some none)
    (z19 : PySem.W.nsIn K mainGlobals "ValueError" = some none)
    (uT : PySem.W.nsIn K mainGlobals "TurnError" = some (some (.ref q_TurnError)))
    (uTb : PySem.W.mroIn K q_TurnError (.type "BaseException") = some true)
    (uTc : PySem.W.isClsIn K q_TurnError = true)
    (uTt : PySem.W.typeIn K (.ref q_TurnError) = some (.type "type"))
    (uG : PySem.W.specialIn K (.builtin "object.__class__") "__get__" = some (some (.builtin "getset_descriptor.__get__")))
    (uK : PySem.W.takesIn K (.builtin "object.__class__") = some true)
    (u0n : PySem.W.nsIn K mainGlobals "NoTurn" = some (some (.ref q_NoTurn)))
    (u0x : PySem.W.excIn K q_NoTurn veB "ValueError.__new__" = true)
    (u0g : PySem.W.findIn K (.ref q_NoTurn) "__getattribute__" = some (some (.builtin "BaseException.__getattribute__")))
    (u0h : PySem.W.findIn K (.ref q_NoTurn) "__getattr__" = some none)
    (u0c : PySem.W.findIn K (.ref q_NoTurn) "__class__" = some (some (.builtin "object.__class__")))
    (u0b : PySem.W.mroIn K q_NoTurn (.type "BaseException") = some true)
    (u0o : PySem.W.mroIn K q_NoTurn (.type "object") = some true)
    (u0i : PySem.W.isClsIn K q_NoTurn = true)
    (u0t : PySem.W.typeIn K (.ref q_NoTurn) = some (.type "type"))
    (u0T : PySem.W.mroIn K q_NoTurn (.ref q_TurnError) = some true)
    (u0v : PySem.W.mroIn K q_NoTurn (.type "ValueError") = some true)
    (u1n : PySem.W.nsIn K mainGlobals "NoFit" = some (some (.ref q_NoFit)))
    (u1x : PySem.W.excIn K q_NoFit veB "ValueError.__new__" = true)
    (u1g : PySem.W.findIn K (.ref q_NoFit) "__getattribute__" = some (some (.builtin "BaseException.__getattribute__")))
    (u1h : PySem.W.findIn K (.ref q_NoFit) "__getattr__" = some none)
    (u1c : PySem.W.findIn K (.ref q_NoFit) "__class__" = some (some (.builtin "object.__class__")))
    (u1b : PySem.W.mroIn K q_NoFit (.type "BaseException") = some true)
    (u1o : PySem.W.mroIn K q_NoFit (.type "object") = some true)
    (u1i : PySem.W.isClsIn K q_NoFit = true)
    (u1t : PySem.W.typeIn K (.ref q_NoFit) = some (.type "type"))
    (u1T : PySem.W.mroIn K q_NoFit (.ref q_TurnError) = some true)
    (u1v : PySem.W.mroIn K q_NoFit (.type "ValueError") = some true)
    (u2n : PySem.W.nsIn K mainGlobals "NoRounds" = some (some (.ref q_NoRounds)))
    (u2x : PySem.W.excIn K q_NoRounds veB "ValueError.__new__" = true)
    (u2g : PySem.W.findIn K (.ref q_NoRounds) "__getattribute__" = some (some (.builtin "BaseException.__getattribute__")))
    (u2h : PySem.W.findIn K (.ref q_NoRounds) "__getattr__" = some none)
    (u2c : PySem.W.findIn K (.ref q_NoRounds) "__class__" = some (some (.builtin "object.__class__")))
    (u2b : PySem.W.mroIn K q_NoRounds (.type "BaseException") = some true)
    (u2o : PySem.W.mroIn K q_NoRounds (.type "object") = some true)
    (u2i : PySem.W.isClsIn K q_NoRounds = true)
    (u2t : PySem.W.typeIn K (.ref q_NoRounds) = some (.type "type"))
    (u2T : PySem.W.mroIn K q_NoRounds (.ref q_TurnError) = some true)
    (u2v : PySem.W.mroIn K q_NoRounds (.type "ValueError") = some true)
    (u3n : PySem.W.nsIn K mainGlobals "NoNumber" = some (some (.ref q_NoNumber)))
    (u3x : PySem.W.excIn K q_NoNumber veB "ValueError.__new__" = true)
    (u3g : PySem.W.findIn K (.ref q_NoNumber) "__getattribute__" = some (some (.builtin "BaseException.__getattribute__")))
    (u3h : PySem.W.findIn K (.ref q_NoNumber) "__getattr__" = some none)
    (u3c : PySem.W.findIn K (.ref q_NoNumber) "__class__" = some (some (.builtin "object.__class__")))
    (u3b : PySem.W.mroIn K q_NoNumber (.type "BaseException") = some true)
    (u3o : PySem.W.mroIn K q_NoNumber (.type "object") = some true)
    (u3i : PySem.W.isClsIn K q_NoNumber = true)
    (u3t : PySem.W.typeIn K (.ref q_NoNumber) = some (.type "type"))
    (u3T : PySem.W.mroIn K q_NoNumber (.ref q_TurnError) = some true)
    (u3v : PySem.W.mroIn K q_NoNumber (.type "ValueError") = some true)
    (u4n : PySem.W.nsIn K mainGlobals "NoRoot" = some (some (.ref q_NoRoot)))
    (u4x : PySem.W.excIn K q_NoRoot veB "ValueError.__new__" = true)
    (u4g : PySem.W.findIn K (.ref q_NoRoot) "__getattribute__" = some (some (.builtin "BaseException.__getattribute__")))
    (u4h : PySem.W.findIn K (.ref q_NoRoot) "__getattr__" = some none)
    (u4c : PySem.W.findIn K (.ref q_NoRoot) "__class__" = some (some (.builtin "object.__class__")))
    (u4b : PySem.W.mroIn K q_NoRoot (.type "BaseException") = some true)
    (u4o : PySem.W.mroIn K q_NoRoot (.type "object") = some true)
    (u4i : PySem.W.isClsIn K q_NoRoot = true)
    (u4t : PySem.W.typeIn K (.ref q_NoRoot) = some (.type "type"))
    (u4T : PySem.W.mroIn K q_NoRoot (.ref q_TurnError) = some true)
    (u4v : PySem.W.mroIn K q_NoRoot (.type "ValueError") = some true)
    (u5n : PySem.W.nsIn K mainGlobals "TooMany" = some (some (.ref q_TooMany)))
    (u5x : PySem.W.excIn K q_TooMany veB "ValueError.__new__" = true)
    (u5g : PySem.W.findIn K (.ref q_TooMany) "__getattribute__" = some (some (.builtin "BaseException.__getattribute__")))
    (u5h : PySem.W.findIn K (.ref q_TooMany) "__getattr__" = some none)
    (u5c : PySem.W.findIn K (.ref q_TooMany) "__class__" = some (some (.builtin "object.__class__")))
    (u5b : PySem.W.mroIn K q_TooMany (.type "BaseException") = some true)
    (u5o : PySem.W.mroIn K q_TooMany (.type "object") = some true)
    (u5i : PySem.W.isClsIn K q_TooMany = true)
    (u5t : PySem.W.typeIn K (.ref q_TooMany) = some (.type "type"))
    (u5T : PySem.W.mroIn K q_TooMany (.ref q_TurnError) = some true)
    (u5v : PySem.W.mroIn K q_TooMany (.type "ValueError") = some true)
    (u6n : PySem.W.nsIn K mainGlobals "NoKind" = some (some (.ref q_NoKind)))
    (u6x : PySem.W.excIn K q_NoKind veB "ValueError.__new__" = true)
    (u6g : PySem.W.findIn K (.ref q_NoKind) "__getattribute__" = some (some (.builtin "BaseException.__getattribute__")))
    (u6h : PySem.W.findIn K (.ref q_NoKind) "__getattr__" = some none)
    (u6c : PySem.W.findIn K (.ref q_NoKind) "__class__" = some (some (.builtin "object.__class__")))
    (u6b : PySem.W.mroIn K q_NoKind (.type "BaseException") = some true)
    (u6o : PySem.W.mroIn K q_NoKind (.type "object") = some true)
    (u6i : PySem.W.isClsIn K q_NoKind = true)
    (u6t : PySem.W.typeIn K (.ref q_NoKind) = some (.type "type"))
    (u6T : PySem.W.mroIn K q_NoKind (.ref q_TurnError) = some true)
    (u6v : PySem.W.mroIn K q_NoKind (.type "ValueError") = some true)
    (u7n : PySem.W.nsIn K mainGlobals "NoText" = some (some (.ref q_NoText)))
    (u7x : PySem.W.excIn K q_NoText veB "ValueError.__new__" = true)
    (u7g : PySem.W.findIn K (.ref q_NoText) "__getattribute__" = some (some (.builtin "BaseException.__getattribute__")))
    (u7h : PySem.W.findIn K (.ref q_NoText) "__getattr__" = some none)
    (u7c : PySem.W.findIn K (.ref q_NoText) "__class__" = some (some (.builtin "object.__class__")))
    (u7b : PySem.W.mroIn K q_NoText (.type "BaseException") = some true)
    (u7o : PySem.W.mroIn K q_NoText (.type "object") = some true)
    (u7i : PySem.W.isClsIn K q_NoText = true)
    (u7t : PySem.W.typeIn K (.ref q_NoText) = some (.type "type"))
    (u7T : PySem.W.mroIn K q_NoText (.ref q_TurnError) = some true)
    (u7v : PySem.W.mroIn K q_NoText (.type "ValueError") = some true)
    (u8n : PySem.W.nsIn K mainGlobals "NoName" = some (some (.ref q_NoName)))
    (u8x : PySem.W.excIn K q_NoName veB "ValueError.__new__" = true)
    (u8g : PySem.W.findIn K (.ref q_NoName) "__getattribute__" = some (some (.builtin "BaseException.__getattribute__")))
    (u8h : PySem.W.findIn K (.ref q_NoName) "__getattr__" = some none)
    (u8c : PySem.W.findIn K (.ref q_NoName) "__class__" = some (some (.builtin "object.__class__")))
    (u8b : PySem.W.mroIn K q_NoName (.type "BaseException") = some true)
    (u8o : PySem.W.mroIn K q_NoName (.type "object") = some true)
    (u8i : PySem.W.isClsIn K q_NoName = true)
    (u8t : PySem.W.typeIn K (.ref q_NoName) = some (.type "type"))
    (u8T : PySem.W.mroIn K q_NoName (.ref q_TurnError) = some true)
    (u8v : PySem.W.mroIn K q_NoName (.type "ValueError") = some true)
    (u9n : PySem.W.nsIn K mainGlobals "NoRow" = some (some (.ref q_NoRow)))
    (u9x : PySem.W.excIn K q_NoRow veB "ValueError.__new__" = true)
    (u9g : PySem.W.findIn K (.ref q_NoRow) "__getattribute__" = some (some (.builtin "BaseException.__getattribute__")))
    (u9h : PySem.W.findIn K (.ref q_NoRow) "__getattr__" = some none)
    (u9c : PySem.W.findIn K (.ref q_NoRow) "__class__" = some (some (.builtin "object.__class__")))
    (u9b : PySem.W.mroIn K q_NoRow (.type "BaseException") = some true)
    (u9o : PySem.W.mroIn K q_NoRow (.type "object") = some true)
    (u9i : PySem.W.isClsIn K q_NoRow = true)
    (u9t : PySem.W.typeIn K (.ref q_NoRow) = some (.type "type"))
    (u9T : PySem.W.mroIn K q_NoRow (.ref q_TurnError) = some true)
    (u9v : PySem.W.mroIn K q_NoRow (.type "ValueError") = some true)
    (u0p0 : PySem.W.mroIn K q_NoTurn (.ref q_NoTurn) = some true)
    (u0p1 : PySem.W.mroIn K q_NoTurn (.ref q_NoFit) = some false)
    (u0p2 : PySem.W.mroIn K q_NoTurn (.ref q_NoRounds) = some false)
    (u0p3 : PySem.W.mroIn K q_NoTurn (.ref q_NoNumber) = some false)
    (u0p4 : PySem.W.mroIn K q_NoTurn (.ref q_NoRoot) = some false)
    (u0p5 : PySem.W.mroIn K q_NoTurn (.ref q_TooMany) = some false)
    (u0p6 : PySem.W.mroIn K q_NoTurn (.ref q_NoKind) = some false)
    (u0p7 : PySem.W.mroIn K q_NoTurn (.ref q_NoText) = some false)
    (u0p8 : PySem.W.mroIn K q_NoTurn (.ref q_NoName) = some false)
    (u0p9 : PySem.W.mroIn K q_NoTurn (.ref q_NoRow) = some false)
    (u1p0 : PySem.W.mroIn K q_NoFit (.ref q_NoTurn) = some false)
    (u1p1 : PySem.W.mroIn K q_NoFit (.ref q_NoFit) = some true)
    (u1p2 : PySem.W.mroIn K q_NoFit (.ref q_NoRounds) = some false)
    (u1p3 : PySem.W.mroIn K q_NoFit (.ref q_NoNumber) = some false)
    (u1p4 : PySem.W.mroIn K q_NoFit (.ref q_NoRoot) = some false)
    (u1p5 : PySem.W.mroIn K q_NoFit (.ref q_TooMany) = some false)
    (u1p6 : PySem.W.mroIn K q_NoFit (.ref q_NoKind) = some false)
    (u1p7 : PySem.W.mroIn K q_NoFit (.ref q_NoText) = some false)
    (u1p8 : PySem.W.mroIn K q_NoFit (.ref q_NoName) = some false)
    (u1p9 : PySem.W.mroIn K q_NoFit (.ref q_NoRow) = some false)
    (u2p0 : PySem.W.mroIn K q_NoRounds (.ref q_NoTurn) = some false)
    (u2p1 : PySem.W.mroIn K q_NoRounds (.ref q_NoFit) = some false)
    (u2p2 : PySem.W.mroIn K q_NoRounds (.ref q_NoRounds) = some true)
    (u2p3 : PySem.W.mroIn K q_NoRounds (.ref q_NoNumber) = some false)
    (u2p4 : PySem.W.mroIn K q_NoRounds (.ref q_NoRoot) = some false)
    (u2p5 : PySem.W.mroIn K q_NoRounds (.ref q_TooMany) = some false)
    (u2p6 : PySem.W.mroIn K q_NoRounds (.ref q_NoKind) = some false)
    (u2p7 : PySem.W.mroIn K q_NoRounds (.ref q_NoText) = some false)
    (u2p8 : PySem.W.mroIn K q_NoRounds (.ref q_NoName) = some false)
    (u2p9 : PySem.W.mroIn K q_NoRounds (.ref q_NoRow) = some false)
    (u3p0 : PySem.W.mroIn K q_NoNumber (.ref q_NoTurn) = some false)
    (u3p1 : PySem.W.mroIn K q_NoNumber (.ref q_NoFit) = some false)
    (u3p2 : PySem.W.mroIn K q_NoNumber (.ref q_NoRounds) = some false)
    (u3p3 : PySem.W.mroIn K q_NoNumber (.ref q_NoNumber) = some true)
    (u3p4 : PySem.W.mroIn K q_NoNumber (.ref q_NoRoot) = some false)
    (u3p5 : PySem.W.mroIn K q_NoNumber (.ref q_TooMany) = some false)
    (u3p6 : PySem.W.mroIn K q_NoNumber (.ref q_NoKind) = some false)
    (u3p7 : PySem.W.mroIn K q_NoNumber (.ref q_NoText) = some false)
    (u3p8 : PySem.W.mroIn K q_NoNumber (.ref q_NoName) = some false)
    (u3p9 : PySem.W.mroIn K q_NoNumber (.ref q_NoRow) = some false)
    (u4p0 : PySem.W.mroIn K q_NoRoot (.ref q_NoTurn) = some false)
    (u4p1 : PySem.W.mroIn K q_NoRoot (.ref q_NoFit) = some false)
    (u4p2 : PySem.W.mroIn K q_NoRoot (.ref q_NoRounds) = some false)
    (u4p3 : PySem.W.mroIn K q_NoRoot (.ref q_NoNumber) = some false)
    (u4p4 : PySem.W.mroIn K q_NoRoot (.ref q_NoRoot) = some true)
    (u4p5 : PySem.W.mroIn K q_NoRoot (.ref q_TooMany) = some false)
    (u4p6 : PySem.W.mroIn K q_NoRoot (.ref q_NoKind) = some false)
    (u4p7 : PySem.W.mroIn K q_NoRoot (.ref q_NoText) = some false)
    (u4p8 : PySem.W.mroIn K q_NoRoot (.ref q_NoName) = some false)
    (u4p9 : PySem.W.mroIn K q_NoRoot (.ref q_NoRow) = some false)
    (u5p0 : PySem.W.mroIn K q_TooMany (.ref q_NoTurn) = some false)
    (u5p1 : PySem.W.mroIn K q_TooMany (.ref q_NoFit) = some false)
    (u5p2 : PySem.W.mroIn K q_TooMany (.ref q_NoRounds) = some false)
    (u5p3 : PySem.W.mroIn K q_TooMany (.ref q_NoNumber) = some false)
    (u5p4 : PySem.W.mroIn K q_TooMany (.ref q_NoRoot) = some false)
    (u5p5 : PySem.W.mroIn K q_TooMany (.ref q_TooMany) = some true)
    (u5p6 : PySem.W.mroIn K q_TooMany (.ref q_NoKind) = some false)
    (u5p7 : PySem.W.mroIn K q_TooMany (.ref q_NoText) = some false)
    (u5p8 : PySem.W.mroIn K q_TooMany (.ref q_NoName) = some false)
    (u5p9 : PySem.W.mroIn K q_TooMany (.ref q_NoRow) = some false)
    (u6p0 : PySem.W.mroIn K q_NoKind (.ref q_NoTurn) = some false)
    (u6p1 : PySem.W.mroIn K q_NoKind (.ref q_NoFit) = some false)
    (u6p2 : PySem.W.mroIn K q_NoKind (.ref q_NoRounds) = some false)
    (u6p3 : PySem.W.mroIn K q_NoKind (.ref q_NoNumber) = some false)
    (u6p4 : PySem.W.mroIn K q_NoKind (.ref q_NoRoot) = some false)
    (u6p5 : PySem.W.mroIn K q_NoKind (.ref q_TooMany) = some false)
    (u6p6 : PySem.W.mroIn K q_NoKind (.ref q_NoKind) = some true)
    (u6p7 : PySem.W.mroIn K q_NoKind (.ref q_NoText) = some false)
    (u6p8 : PySem.W.mroIn K q_NoKind (.ref q_NoName) = some false)
    (u6p9 : PySem.W.mroIn K q_NoKind (.ref q_NoRow) = some false)
    (u7p0 : PySem.W.mroIn K q_NoText (.ref q_NoTurn) = some false)
    (u7p1 : PySem.W.mroIn K q_NoText (.ref q_NoFit) = some false)
    (u7p2 : PySem.W.mroIn K q_NoText (.ref q_NoRounds) = some false)
    (u7p3 : PySem.W.mroIn K q_NoText (.ref q_NoNumber) = some false)
    (u7p4 : PySem.W.mroIn K q_NoText (.ref q_NoRoot) = some false)
    (u7p5 : PySem.W.mroIn K q_NoText (.ref q_TooMany) = some false)
    (u7p6 : PySem.W.mroIn K q_NoText (.ref q_NoKind) = some false)
    (u7p7 : PySem.W.mroIn K q_NoText (.ref q_NoText) = some true)
    (u7p8 : PySem.W.mroIn K q_NoText (.ref q_NoName) = some false)
    (u7p9 : PySem.W.mroIn K q_NoText (.ref q_NoRow) = some false)
    (u8p0 : PySem.W.mroIn K q_NoName (.ref q_NoTurn) = some false)
    (u8p1 : PySem.W.mroIn K q_NoName (.ref q_NoFit) = some false)
    (u8p2 : PySem.W.mroIn K q_NoName (.ref q_NoRounds) = some false)
    (u8p3 : PySem.W.mroIn K q_NoName (.ref q_NoNumber) = some false)
    (u8p4 : PySem.W.mroIn K q_NoName (.ref q_NoRoot) = some false)
    (u8p5 : PySem.W.mroIn K q_NoName (.ref q_TooMany) = some false)
    (u8p6 : PySem.W.mroIn K q_NoName (.ref q_NoKind) = some false)
    (u8p7 : PySem.W.mroIn K q_NoName (.ref q_NoText) = some false)
    (u8p8 : PySem.W.mroIn K q_NoName (.ref q_NoName) = some true)
    (u8p9 : PySem.W.mroIn K q_NoName (.ref q_NoRow) = some false)
    (u9p0 : PySem.W.mroIn K q_NoRow (.ref q_NoTurn) = some false)
    (u9p1 : PySem.W.mroIn K q_NoRow (.ref q_NoFit) = some false)
    (u9p2 : PySem.W.mroIn K q_NoRow (.ref q_NoRounds) = some false)
    (u9p3 : PySem.W.mroIn K q_NoRow (.ref q_NoNumber) = some false)
    (u9p4 : PySem.W.mroIn K q_NoRow (.ref q_NoRoot) = some false)
    (u9p5 : PySem.W.mroIn K q_NoRow (.ref q_TooMany) = some false)
    (u9p6 : PySem.W.mroIn K q_NoRow (.ref q_NoKind) = some false)
    (u9p7 : PySem.W.mroIn K q_NoRow (.ref q_NoText) = some false)
    (u9p8 : PySem.W.mroIn K q_NoRow (.ref q_NoName) = some false)
    (u9p9 : PySem.W.mroIn K q_NoRow (.ref q_NoRow) = some true)
    : ∃ fd : FuncData, (∀ (s : Shared) (v : Value), BindsTo s fd ⟨[v], []⟩ [("script", v)]) ∧ ∀ base : Heap, K.In base → base.Ns mainGlobals mg → FnOk l.prog w K mg base CX0 6 fa fd ["script"] (spLaw K) := by
  have e := hfa.symm.trans (PySem.W.mg_of X G a17)
  cases e
  have B : Bl mg := ⟨PySem.W.mg_none_of X G z0, PySem.W.mg_none_of X G z1, PySem.W.mg_none_of X G z2, PySem.W.mg_none_of X G z3, PySem.W.mg_none_of X G z4, PySem.W.mg_none_of X G z5, PySem.W.mg_none_of X G z6, PySem.W.mg_none_of X G z7, PySem.W.mg_none_of X G z8, PySem.W.mg_none_of X G z9, PySem.W.mg_none_of X G z10, PySem.W.mg_none_of X G z11, PySem.W.mg_none_of X G z12, PySem.W.mg_none_of X G z13, PySem.W.mg_none_of X G z14, PySem.W.mg_none_of X G z15, PySem.W.mg_none_of X G z16, PySem.W.mg_none_of X G z17, PySem.W.mg_none_of X G z18, PySem.W.mg_none_of X G z19⟩
  have e_NoTurn : Err K mg "NoTurn" q_NoTurn := ⟨PySem.W.mg_of X G u0n, u0x⟩
  have e_NoFit : Err K mg "NoFit" q_NoFit := ⟨PySem.W.mg_of X G u1n, u1x⟩
  have e_NoRounds : Err K mg "NoRounds" q_NoRounds := ⟨PySem.W.mg_of X G u2n, u2x⟩
  have e_NoNumber : Err K mg "NoNumber" q_NoNumber := ⟨PySem.W.mg_of X G u3n, u3x⟩
  have e_NoRoot : Err K mg "NoRoot" q_NoRoot := ⟨PySem.W.mg_of X G u4n, u4x⟩
  have e_TooMany : Err K mg "TooMany" q_TooMany := ⟨PySem.W.mg_of X G u5n, u5x⟩
  have e_NoKind : Err K mg "NoKind" q_NoKind := ⟨PySem.W.mg_of X G u6n, u6x⟩
  have e_NoText : Err K mg "NoText" q_NoText := ⟨PySem.W.mg_of X G u7n, u7x⟩
  have e_NoName : Err K mg "NoName" q_NoName := ⟨PySem.W.mg_of X G u8n, u8x⟩
  have e_NoRow : Err K mg "NoRow" q_NoRow := ⟨PySem.W.mg_of X G u9n, u9x⟩
  have ER : ErrAll K mg q_TurnError [("NoTurn", q_NoTurn), ("NoFit", q_NoFit), ("NoRounds", q_NoRounds), ("NoNumber", q_NoNumber), ("NoRoot", q_NoRoot), ("TooMany", q_TooMany), ("NoKind", q_NoKind), ("NoText", q_NoText), ("NoName", q_NoName), ("NoRow", q_NoRow)] := by
    refine ⟨PySem.W.mg_of X G uT, ?_, ?_, ?_, ?_, ?_⟩
    · intro p hp
      simp only [List.mem_cons, List.not_mem_nil, or_false] at hp
      rcases hp with rfl | rfl | rfl | rfl | rfl | rfl | rfl | rfl | rfl | rfl
      · exact e_NoTurn
      · exact e_NoFit
      · exact e_NoRounds
      · exact e_NoNumber
      · exact e_NoRoot
      · exact e_TooMany
      · exact e_NoKind
      · exact e_NoText
      · exact e_NoName
      · exact e_NoRow
    · intro p hp
      simp only [List.mem_cons, List.not_mem_nil, or_false] at hp
      rcases hp with rfl | rfl | rfl | rfl | rfl | rfl | rfl | rfl | rfl | rfl
      · exact errI_mk u0g u0h u0c uG uK u0b u0o u0i
      · exact errI_mk u1g u1h u1c uG uK u1b u1o u1i
      · exact errI_mk u2g u2h u2c uG uK u2b u2o u2i
      · exact errI_mk u3g u3h u3c uG uK u3b u3o u3i
      · exact errI_mk u4g u4h u4c uG uK u4b u4o u4i
      · exact errI_mk u5g u5h u5c uG uK u5b u5o u5i
      · exact errI_mk u6g u6h u6c uG uK u6b u6o u6i
      · exact errI_mk u7g u7h u7c uG uK u7b u7o u7i
      · exact errI_mk u8g u8h u8c uG uK u8b u8o u8i
      · exact errI_mk u9g u9h u9c uG uK u9b u9o u9i
    · intro p hp
      simp only [List.mem_cons, List.not_mem_nil, or_false] at hp
      rcases hp with rfl | rfl | rfl | rfl | rfl | rfl | rfl | rfl | rfl | rfl
      · exact exm_own uTb uTc uTt u0T
      · exact exm_own uTb uTc uTt u1T
      · exact exm_own uTb uTc uTt u2T
      · exact exm_own uTb uTc uTt u3T
      · exact exm_own uTb uTc uTt u4T
      · exact exm_own uTb uTc uTt u5T
      · exact exm_own uTb uTc uTt u6T
      · exact exm_own uTb uTc uTt u7T
      · exact exm_own uTb uTc uTt u8T
      · exact exm_own uTb uTc uTt u9T
    · intro p hp
      simp only [List.mem_cons, List.not_mem_nil, or_false] at hp
      rcases hp with rfl | rfl | rfl | rfl | rfl | rfl | rfl | rfl | rfl | rfl
      · exact kit_ve u0v
      · exact kit_ve u1v
      · exact kit_ve u2v
      · exact kit_ve u3v
      · exact kit_ve u4v
      · exact kit_ve u5v
      · exact kit_ve u6v
      · exact kit_ve u7v
      · exact kit_ve u8v
      · exact kit_ve u9v
    · intro p hp q hq
      simp only [List.mem_cons, List.not_mem_nil, or_false] at hp hq
      rcases hp with rfl | rfl | rfl | rfl | rfl | rfl | rfl | rfl | rfl | rfl
      · rcases hq with rfl | rfl | rfl | rfl | rfl | rfl | rfl | rfl | rfl | rfl
        · exact kit_own u0i u0t u0p0 (fun _ => rfl)
        · exact kit_own u1i u1t u0p1 (fun _ => by simp_all)
        · exact kit_own u2i u2t u0p2 (fun _ => by simp_all)
        · exact kit_own u3i u3t u0p3 (fun _ => by simp_all)
        · exact kit_own u4i u4t u0p4 (fun _ => by simp_all)
        · exact kit_own u5i u5t u0p5 (fun _ => by simp_all)
        · exact kit_own u6i u6t u0p6 (fun _ => by simp_all)
        · exact kit_own u7i u7t u0p7 (fun _ => by simp_all)
        · exact kit_own u8i u8t u0p8 (fun _ => by simp_all)
        · exact kit_own u9i u9t u0p9 (fun _ => by simp_all)
      · rcases hq with rfl | rfl | rfl | rfl | rfl | rfl | rfl | rfl | rfl | rfl
        · exact kit_own u0i u0t u1p0 (fun _ => by simp_all)
        · exact kit_own u1i u1t u1p1 (fun _ => rfl)
        · exact kit_own u2i u2t u1p2 (fun _ => by simp_all)
        · exact kit_own u3i u3t u1p3 (fun _ => by simp_all)
        · exact kit_own u4i u4t u1p4 (fun _ => by simp_all)
        · exact kit_own u5i u5t u1p5 (fun _ => by simp_all)
        · exact kit_own u6i u6t u1p6 (fun _ => by simp_all)
        · exact kit_own u7i u7t u1p7 (fun _ => by simp_all)
        · exact kit_own u8i u8t u1p8 (fun _ => by simp_all)
        · exact kit_own u9i u9t u1p9 (fun _ => by simp_all)
      · rcases hq with rfl | rfl | rfl | rfl | rfl | rfl | rfl | rfl | rfl | rfl
        · exact kit_own u0i u0t u2p0 (fun _ => by simp_all)
        · exact kit_own u1i u1t u2p1 (fun _ => by simp_all)
        · exact kit_own u2i u2t u2p2 (fun _ => rfl)
        · exact kit_own u3i u3t u2p3 (fun _ => by simp_all)
        · exact kit_own u4i u4t u2p4 (fun _ => by simp_all)
        · exact kit_own u5i u5t u2p5 (fun _ => by simp_all)
        · exact kit_own u6i u6t u2p6 (fun _ => by simp_all)
        · exact kit_own u7i u7t u2p7 (fun _ => by simp_all)
        · exact kit_own u8i u8t u2p8 (fun _ => by simp_all)
        · exact kit_own u9i u9t u2p9 (fun _ => by simp_all)
      · rcases hq with rfl | rfl | rfl | rfl | rfl | rfl | rfl | rfl | rfl | rfl
        · exact kit_own u0i u0t u3p0 (fun _ => by simp_all)
        · exact kit_own u1i u1t u3p1 (fun _ => by simp_all)
        · exact kit_own u2i u2t u3p2 (fun _ => by simp_all)
        · exact kit_own u3i u3t u3p3 (fun _ => rfl)
        · exact kit_own u4i u4t u3p4 (fun _ => by simp_all)
        · exact kit_own u5i u5t u3p5 (fun _ => by simp_all)
        · exact kit_own u6i u6t u3p6 (fun _ => by simp_all)
        · exact kit_own u7i u7t u3p7 (fun _ => by simp_all)
        · exact kit_own u8i u8t u3p8 (fun _ => by simp_all)
        · exact kit_own u9i u9t u3p9 (fun _ => by simp_all)
      · rcases hq with rfl | rfl | rfl | rfl | rfl | rfl | rfl | rfl | rfl | rfl
        · exact kit_own u0i u0t u4p0 (fun _ => by simp_all)
        · exact kit_own u1i u1t u4p1 (fun _ => by simp_all)
        · exact kit_own u2i u2t u4p2 (fun _ => by simp_all)
        · exact kit_own u3i u3t u4p3 (fun _ => by simp_all)
        · exact kit_own u4i u4t u4p4 (fun _ => rfl)
        · exact kit_own u5i u5t u4p5 (fun _ => by simp_all)
        · exact kit_own u6i u6t u4p6 (fun _ => by simp_all)
        · exact kit_own u7i u7t u4p7 (fun _ => by simp_all)
        · exact kit_own u8i u8t u4p8 (fun _ => by simp_all)
        · exact kit_own u9i u9t u4p9 (fun _ => by simp_all)
      · rcases hq with rfl | rfl | rfl | rfl | rfl | rfl | rfl | rfl | rfl | rfl
        · exact kit_own u0i u0t u5p0 (fun _ => by simp_all)
        · exact kit_own u1i u1t u5p1 (fun _ => by simp_all)
        · exact kit_own u2i u2t u5p2 (fun _ => by simp_all)
        · exact kit_own u3i u3t u5p3 (fun _ => by simp_all)
        · exact kit_own u4i u4t u5p4 (fun _ => by simp_all)
        · exact kit_own u5i u5t u5p5 (fun _ => rfl)
        · exact kit_own u6i u6t u5p6 (fun _ => by simp_all)
        · exact kit_own u7i u7t u5p7 (fun _ => by simp_all)
        · exact kit_own u8i u8t u5p8 (fun _ => by simp_all)
        · exact kit_own u9i u9t u5p9 (fun _ => by simp_all)
      · rcases hq with rfl | rfl | rfl | rfl | rfl | rfl | rfl | rfl | rfl | rfl
        · exact kit_own u0i u0t u6p0 (fun _ => by simp_all)
        · exact kit_own u1i u1t u6p1 (fun _ => by simp_all)
        · exact kit_own u2i u2t u6p2 (fun _ => by simp_all)
        · exact kit_own u3i u3t u6p3 (fun _ => by simp_all)
        · exact kit_own u4i u4t u6p4 (fun _ => by simp_all)
        · exact kit_own u5i u5t u6p5 (fun _ => by simp_all)
        · exact kit_own u6i u6t u6p6 (fun _ => rfl)
        · exact kit_own u7i u7t u6p7 (fun _ => by simp_all)
        · exact kit_own u8i u8t u6p8 (fun _ => by simp_all)
        · exact kit_own u9i u9t u6p9 (fun _ => by simp_all)
      · rcases hq with rfl | rfl | rfl | rfl | rfl | rfl | rfl | rfl | rfl | rfl
        · exact kit_own u0i u0t u7p0 (fun _ => by simp_all)
        · exact kit_own u1i u1t u7p1 (fun _ => by simp_all)
        · exact kit_own u2i u2t u7p2 (fun _ => by simp_all)
        · exact kit_own u3i u3t u7p3 (fun _ => by simp_all)
        · exact kit_own u4i u4t u7p4 (fun _ => by simp_all)
        · exact kit_own u5i u5t u7p5 (fun _ => by simp_all)
        · exact kit_own u6i u6t u7p6 (fun _ => by simp_all)
        · exact kit_own u7i u7t u7p7 (fun _ => rfl)
        · exact kit_own u8i u8t u7p8 (fun _ => by simp_all)
        · exact kit_own u9i u9t u7p9 (fun _ => by simp_all)
      · rcases hq with rfl | rfl | rfl | rfl | rfl | rfl | rfl | rfl | rfl | rfl
        · exact kit_own u0i u0t u8p0 (fun _ => by simp_all)
        · exact kit_own u1i u1t u8p1 (fun _ => by simp_all)
        · exact kit_own u2i u2t u8p2 (fun _ => by simp_all)
        · exact kit_own u3i u3t u8p3 (fun _ => by simp_all)
        · exact kit_own u4i u4t u8p4 (fun _ => by simp_all)
        · exact kit_own u5i u5t u8p5 (fun _ => by simp_all)
        · exact kit_own u6i u6t u8p6 (fun _ => by simp_all)
        · exact kit_own u7i u7t u8p7 (fun _ => by simp_all)
        · exact kit_own u8i u8t u8p8 (fun _ => rfl)
        · exact kit_own u9i u9t u8p9 (fun _ => by simp_all)
      · rcases hq with rfl | rfl | rfl | rfl | rfl | rfl | rfl | rfl | rfl | rfl
        · exact kit_own u0i u0t u9p0 (fun _ => by simp_all)
        · exact kit_own u1i u1t u9p1 (fun _ => by simp_all)
        · exact kit_own u2i u2t u9p2 (fun _ => by simp_all)
        · exact kit_own u3i u3t u9p3 (fun _ => by simp_all)
        · exact kit_own u4i u4t u9p4 (fun _ => by simp_all)
        · exact kit_own u5i u5t u9p5 (fun _ => by simp_all)
        · exact kit_own u6i u6t u9p6 (fun _ => by simp_all)
        · exact kit_own u7i u7t u9p7 (fun _ => by simp_all)
        · exact kit_own u8i u8t u9p8 (fun _ => by simp_all)
        · exact kit_own u9i u9t u9p9 (fun _ => rfl)
  have F0 := fun_mk (st := s_is_whole) l0 c0 k0
  have b0 := F0.binds (ps := ["thing"]) fun _ _ _ _ _ _ us hl => match us, hl with | [_], _ => rfl
  have F1 := fun_mk (st := s_must_be_from_one) l1 c1 k1
  have b1 := F1.binds (ps := ["number"]) fun _ _ _ _ _ _ us hl => match us, hl with | [_], _ => rfl
  have F2 := fun_mk (st := s_greatest_part) l2 c2 k2
  have b2 := F2.binds (ps := ["a", "b"]) fun _ _ _ _ _ _ us hl => match us, hl with | [_, _], _ => rfl
  have F3 := fun_mk (st := s_least_right) l3 c3 k3
  have b3 := F3.binds (ps := ["l", "m"]) fun _ _ _ _ _ _ us hl => match us, hl with | [_, _], _ => rfl
  have F4 := fun_mk (st := s_law_cell_at) l4 c4 k4
  have b4 := F4.binds (ps := ["script", "k"]) fun _ _ _ _ _ _ us hl => match us, hl with | [_, _], _ => rfl
  have F5 := fun_mk (st := s_law_stir) l5 c5 k5
  have b5 := F5.binds (ps := ["cell", "k"]) fun _ _ _ _ _ _ us hl => match us, hl with | [_, _], _ => rfl
  have F6 := fun_mk (st := s_law_deck) l6 c6 k6
  have b6 := F6.binds (ps := ["cell", "many"]) fun _ _ _ _ _ _ us hl => match us, hl with | [_, _], _ => rfl
  have F7 := fun_mk (st := s_law_next) l7 c7 k7
  have b7 := F7.binds (ps := ["deck"]) fun _ _ _ _ _ _ us hl => match us, hl with | [_], _ => rfl
  have F8 := fun_mk (st := s_law_word) l8 c8 k8
  have b8 := F8.binds (ps := ["caught"]) fun _ _ _ _ _ _ us hl => match us, hl with | [_], _ => rfl
  have F9 := fun_mk (st := s_law_asked) l9 c9 k9
  have b9 := F9.binds (ps := ["l", "m"]) fun _ _ _ _ _ _ us hl => match us, hl with | [_, _], _ => rfl
  have F10 := fun_mk (st := s_law_drawn) l10 c10 k10
  have b10 := F10.binds (ps := ["deck"]) fun _ _ _ _ _ _ us hl => match us, hl with | [_], _ => rfl
  have F11 := fun_mk (st := s_law_number) l11 c11 k11
  have b11 := F11.binds (ps := ["powers"]) fun _ _ _ _ _ _ us hl => match us, hl with | [_], _ => rfl
  have F12 := fun_mk (st := s_law_parts_both) l12 c12 k12
  have b12 := F12.binds (ps := ["one", "other"]) fun _ _ _ _ _ _ us hl => match us, hl with | [_, _], _ => rfl
  have F13 := fun_mk (st := s_law_tried) l13 c13 k13
  have b13 := F13.binds (ps := ["l", "m"]) fun _ _ _ _ _ _ us hl => match us, hl with | [_, _], _ => rfl
  have F14 := fun_mk (st := s_law_shared) l14 c14 k14
  have b14 := F14.binds (ps := ["one", "other"]) fun _ _ _ _ _ _ us hl => match us, hl with | [_, _], _ => rfl
  have F15 := fun_mk (st := s_law_fits) l15 c15 k15
  have b15 := F15.binds (ps := ["l", "m", "d"]) fun _ _ _ _ _ _ us hl => match us, hl with | [_, _, _], _ => rfl
  have F16 := fun_mk (st := s_law_great_right) l16 c16 k16
  have b16 := F16.binds (ps := ["deck"]) fun _ _ _ _ _ _ us hl => match us, hl with | [_], _ => rfl
  have F17 := fun_mk (st := s_law) l17 c17 k17
  refine ⟨PySem.W.fnOf "law" "law" (defArgs s_law) (defBody s_law) (defScope s_law) .none kV17 dc17 pm17 an17 cd17 ct17, fun s v => .of_eq rfl, fun base _ _ => ?_⟩
  have c_is_whole : Cal l.prog w K mg base "is_whole" 1 ["thing"] (spWhole K) := ⟨f0, _, PySem.W.mg_of X G a0, k0, b0, ok_whole F0 B⟩
  have cx_must_be_from_one : CalX l.prog w K mg base "must_be_from_one" 2 ["number"] (fun vs H Q E => spOne vs H Q E ∨ (spOneX q_NoNumber) vs H Q E) := ⟨f1, _, PySem.W.mg_of X G a1, k1, b1, FnOk.or (FnOk.lift (ok_one F1 c_is_whole)) (okx_must_be_from_one F1 c_is_whole e_NoNumber)⟩
  have c_must_be_from_one : Cal l.prog w K mg base "must_be_from_one" 2 ["number"] spOne := ⟨f1, _, PySem.W.mg_of X G a1, k1, b1, ok_one F1 c_is_whole⟩
  have c_greatest_part : Cal l.prog w K mg base "greatest_part" 1 ["a", "b"] spGcd := ⟨f2, _, PySem.W.mg_of X G a2, k2, b2, ok_gcd F2⟩
  have cx_least_right : CalX l.prog w K mg base "least_right" 3 ["l", "m"] (fun vs H Q E => spLR vs H Q E ∨ (spLRX q_NoNumber) vs H Q E) := ⟨f3, _, PySem.W.mg_of X G a3, k3, b3, FnOk.or (FnOk.lift (ok_lr F3 c_must_be_from_one c_greatest_part)) (okx_least_right F3 cx_must_be_from_one)⟩
  have c_least_right : Cal l.prog w K mg base "least_right" 3 ["l", "m"] spLR := ⟨f3, _, PySem.W.mg_of X G a3, k3, b3, ok_lr F3 c_must_be_from_one c_greatest_part⟩
  have c_law_cell_at : Cal l.prog w K mg base "_law_cell_at" 1 ["script", "k"] (spCell K) := ⟨f4, _, PySem.W.mg_of X G a4, k4, b4, ok_cell F4 B⟩
  have c_law_stir : Cal l.prog w K mg base "_law_stir" 1 ["cell", "k"] spStir := ⟨f5, _, PySem.W.mg_of X G a5, k5, b5, ok_stir F5⟩
  have c_law_deck : Cal l.prog w K mg base "_law_deck" 2 ["cell", "many"] spDeck := ⟨f6, _, PySem.W.mg_of X G a6, k6, b6, ok_deck F6 B c_law_stir⟩
  have c_law_next : Cal l.prog w K mg base "_law_next" 1 ["deck"] spNext := ⟨f7, _, PySem.W.mg_of X G a7, k7, b7, ok_next F7⟩
  have c_law_word : Cal l.prog w K mg base "_law_word" 1 ["caught"] (spWord q_NoTurn q_NoFit q_NoRounds q_NoNumber q_NoRoot q_TooMany q_NoKind q_NoText q_NoName q_NoRow) := ⟨f8, _, PySem.W.mg_of X G a8, k8, b8, ok_law_word F8 B ER⟩
  have c_law_asked : Cal l.prog w K mg base "_law_asked" 4 ["l", "m"] spAsked := ⟨f9, _, PySem.W.mg_of X G a9, k9, b9, ok_law_asked F9 cx_least_right c_law_word ER⟩
  have c_law_drawn : Cal l.prog w K mg base "_law_drawn" 2 ["deck"] spDrawn := ⟨f10, _, PySem.W.mg_of X G a10, k10, b10, ok_law_drawn F10 c_law_next⟩
  have c_law_number : Cal l.prog w K mg base "_law_number" 1 ["powers"] spNum := ⟨f11, _, PySem.W.mg_of X G a11, k11, b11, ok_law_number F11 B⟩
  have c_law_parts_both : Cal l.prog w K mg base "_law_parts_both" 1 ["one", "other"] spPartsBoth := ⟨f12, _, PySem.W.mg_of X G a12, k12, b12, ok_law_parts_both F12 B⟩
  have c_law_tried : Cal l.prog w K mg base "_law_tried" 2 ["l", "m"] spTried := ⟨f13, _, PySem.W.mg_of X G a13, k13, b13, ok_law_tried F13 B c_law_parts_both⟩
  have c_law_shared : Cal l.prog w K mg base "_law_shared" 1 ["one", "other"] spShared := ⟨f14, _, PySem.W.mg_of X G a14, k14, b14, ok_law_shared F14⟩
  have c_law_fits : Cal l.prog w K mg base "_law_fits" 2 ["l", "m", "d"] spFits := ⟨f15, _, PySem.W.mg_of X G a15, k15, b15, ok_law_fits F15 B c_law_shared⟩
  have c_law_great_right : Cal l.prog w K mg base "_law_great_right" 5 ["deck"] spGreat := ⟨f16, _, PySem.W.mg_of X G a16, k16, b16, ok_law_great_right F16 B c_law_next c_law_fits c_law_asked⟩
  exact ok_law F17 B c_law_deck c_law_cell_at c_law_drawn c_law_number c_law_asked c_law_next c_law_tried c_law_great_right
theorem walk {l : PySem.W.OpenLaw} {q : Program} {loose : List Str} {XP : (Str → Option Value) → Heap → Prop} {YP : World → Heap → Prop} {d : DefRec} {K : Params → PySem.W.Frag} (hn : l.most = some 63) (hdf : d.params.defaults = [])
    (hY : ∀ (w : World) (h : Heap), YP w h → (K w.params).In h)
    (F : ∀ (w : World) (mg : Str → Option Value) (fa : Addr) (h : Heap), (K w.params).In h → h.Ns mainGlobals mg → mg d.name = some (.ref fa) →
      ∃ fd : FuncData, (∀ (s : Shared) (u : Value), BindsTo s fd ⟨[u], []⟩ [("script", u)]) ∧ ∀ base : Heap, (K w.params).In base → base.Ns mainGlobals mg → FnOk l.prog w (K w.params) mg base CX0 6 fa fd ["script"] (spLaw (K w.params))) :
    PySem.W.WalkO q loose XP YP l.row.toRowW d [] (fun f vs => PySem.call f vs) :=
  L2.walk_of (n := 63) (k := 6) (x := "script") (CX := fun _ => CX0) (sp := fun w => spLaw (K w.params)) hn (by decide) hdf ⟨rfl, by decide, by decide⟩ hY F (fun _ _ a ns hl _ hS => ⟨a, ns, rfl, hS, hl, fun _ => rfl⟩) fun _ _ _ _ _ z => z
end My
open PySem PySem.W PyProof.Rows
set_option maxRecDepth 100000 in
set_option maxHeartbeats 0 in
theorem PySem.Challenge.cw_turnroots_k13_least_right_holds : PySem.Challenge.rw_turnroots_k13_least_right.Holds := by
  w_on; o_law; k_head; (case hw => w_witness2)
  k_fill
  refine My.walk (l := PySem.Challenge.rw_turnroots_k13_least_right) rfl rfl (fun w h Y => PySem.W.kIn_of Y) ?F
  case F =>
    intro w mg fa h KX G hmg
    refine' My.all_mk KX G hmg ?a0 ?l0 ?c0 ?k0 ?a1 ?l1 ?c1 ?k1 ?a2 ?l2 ?c2 ?k2 ?a3 ?l3 ?c3 ?k3 ?a4 ?l4 ?c4 ?k4 ?a5 ?l5 ?c5 ?k5 ?a6 ?l6 ?c6 ?k6 ?a7 ?l7 ?c7 ?k7 ?a8 ?l8 ?c8 ?k8 ?a9 ?l9 ?c9 ?k9 ?a10 ?l10 ?c10 ?k10 ?a11 ?l11 ?c11 ?k11 ?a12 ?l12 ?c12 ?k12 ?a13 ?l13 ?c13 ?k13 ?a14 ?l14 ?c14 ?k14 ?a15 ?l15 ?c15 ?k15 ?a16 ?l16 ?c16 ?k16 ?a17 ?l17 ?c17 ?k17 ?z0 ?z1 ?z2 ?z3 ?z4 ?z5 ?z6 ?z7 ?z8 ?z9 ?z10 ?z11 ?z12 ?z13 ?z14 ?z15 ?z16 ?z17 ?z18 ?z19 ?uT ?uTb ?uTc ?uTt ?uG ?uK ?u0n ?u0x ?u0g ?u0h ?u0c ?u0b ?u0o ?u0i ?u0t ?u0T ?u0v ?u1n ?u1x ?u1g ?u1h ?u1c ?u1b ?u1o ?u1i ?u1t ?u1T ?u1v ?u2n ?u2x ?u2g ?u2h ?u2c ?u2b ?u2o ?u2i ?u2t ?u2T ?u2v ?u3n ?u3x ?u3g ?u3h ?u3c ?u3b ?u3o ?u3i ?u3t ?u3T ?u3v ?u4n ?u4x ?u4g ?u4h ?u4c ?u4b ?u4o ?u4i ?u4t ?u4T ?u4v ?u5n ?u5x ?u5g ?u5h ?u5c ?u5b ?u5o ?u5i ?u5t ?u5T ?u5v ?u6n ?u6x ?u6g ?u6h ?u6c ?u6b ?u6o ?u6i ?u6t ?u6T ?u6v ?u7n ?u7x ?u7g ?u7h ?u7c ?u7b ?u7o ?u7i ?u7t ?u7T ?u7v ?u8n ?u8x ?u8g ?u8h ?u8c ?u8b ?u8o ?u8i ?u8t ?u8T ?u8v ?u9n ?u9x ?u9g ?u9h ?u9c ?u9b ?u9o ?u9i ?u9t ?u9T ?u9v ?u0p0 ?u0p1 ?u0p2 ?u0p3 ?u0p4 ?u0p5 ?u0p6 ?u0p7 ?u0p8 ?u0p9 ?u1p0 ?u1p1 ?u1p2 ?u1p3 ?u1p4 ?u1p5 ?u1p6 ?u1p7 ?u1p8 ?u1p9 ?u2p0 ?u2p1 ?u2p2 ?u2p3 ?u2p4 ?u2p5 ?u2p6 ?u2p7 ?u2p8 ?u2p9 ?u3p0 ?u3p1 ?u3p2 ?u3p3 ?u3p4 ?u3p5 ?u3p6 ?u3p7 ?u3p8 ?u3p9 ?u4p0 ?u4p1 ?u4p2 ?u4p3 ?u4p4 ?u4p5 ?u4p6 ?u4p7 ?u4p8 ?u4p9 ?u5p0 ?u5p1 ?u5p2 ?u5p3 ?u5p4 ?u5p5 ?u5p6 ?u5p7 ?u5p8 ?u5p9 ?u6p0 ?u6p1 ?u6p2 ?u6p3 ?u6p4 ?u6p5 ?u6p6 ?u6p7 ?u6p8 ?u6p9 ?u7p0 ?u7p1 ?u7p2 ?u7p3 ?u7p4 ?u7p5 ?u7p6 ?u7p7 ?u7p8 ?u7p9 ?u8p0 ?u8p1 ?u8p2 ?u8p3 ?u8p4 ?u8p5 ?u8p6 ?u8p7 ?u8p8 ?u8p9 ?u9p0 ?u9p1 ?u9p2 ?u9p3 ?u9p4 ?u9p5 ?u9p6 ?u9p7 ?u9p8 ?u9p9
    (case a0 => k_is)
    (case l0 => k_is)
    (case c0 => k_is)
    (case k0 => k_is)
    (case a1 => k_is)
    (case l1 => k_is)
    (case c1 => k_is)
    (case k1 => k_is)
    (case a2 => k_is)
    (case l2 => k_is)
    (case c2 => k_is)
    (case k2 => k_is)
    (case a3 => k_is)
    (case l3 => k_is)
    (case c3 => k_is)
    (case k3 => k_is)
    (case a4 => k_is)
    (case l4 => k_is)
    (case c4 => k_is)
    (case k4 => k_is)
    (case a5 => k_is)
    (case l5 => k_is)
    (case c5 => k_is)
    (case k5 => k_is)
    (case a6 => k_is)
    (case l6 => k_is)
    (case c6 => k_is)
    (case k6 => k_is)
    (case a7 => k_is)
    (case l7 => k_is)
    (case c7 => k_is)
    (case k7 => k_is)
    (case a8 => k_is)
    (case l8 => k_is)
    (case c8 => k_is)
    (case k8 => k_is)
    (case a9 => k_is)
    (case l9 => k_is)
    (case c9 => k_is)
    (case k9 => k_is)
    (case a10 => k_is)
    (case l10 => k_is)
    (case c10 => k_is)
    (case k10 => k_is)
    (case a11 => k_is)
    (case l11 => k_is)
    (case c11 => k_is)
    (case k11 => k_is)
    (case a12 => k_is)
    (case l12 => k_is)
    (case c12 => k_is)
    (case k12 => k_is)
    (case a13 => k_is)
    (case l13 => k_is)
    (case c13 => k_is)
    (case k13 => k_is)
    (case a14 => k_is)
    (case l14 => k_is)
    (case c14 => k_is)
    (case k14 => k_is)
    (case a15 => k_is)
    (case l15 => k_is)
    (case c15 => k_is)
    (case k15 => k_is)
    (case a16 => k_is)
    (case l16 => k_is)
    (case c16 => k_is)
    (case k16 => k_is)
    (case a17 => k_is)
    (case l17 => k_is)
    (case c17 => k_is)
    (case k17 => k_is)
    (case z0 => k_is)
    (case z1 => k_is)
    (case z2 => k_is)
    (case z3 => k_is)
    (case z4 => k_is)
    (case z5 => k_is)
    (case z6 => k_is)
    (case z7 => k_is)
    (case z8 => k_is)
    (case z9 => k_is)
    (case z10 => k_is)
    (case z11 => k_is)
    (case z12 => k_is)
    (case z13 => k_is)
    (case z14 => k_is)
    (case z15 => k_is)
    (case z16 => k_is)
    (case z17 => k_is)
    (case z18 => k_is)
    (case z19 => k_is)
    (case uT => k_is)
    (case uTb => k_is)
    (case uTc => k_is)
    (case uTt => k_is)
    (case uG => k_is)
    (case uK => k_is)
    (case u0n => k_is)
    (case u0x => k_exc)
    (case u0g => k_is)
    (case u0h => k_is)
    (case u0c => k_is)
    (case u0b => k_is)
    (case u0o => k_is)
    (case u0i => k_is)
    (case u0t => k_is)
    (case u0T => k_is)
    (case u0v => k_is)
    (case u1n => k_is)
    (case u1x => k_exc)
    (case u1g => k_is)
    (case u1h => k_is)
    (case u1c => k_is)
    (case u1b => k_is)
    (case u1o => k_is)
    (case u1i => k_is)
    (case u1t => k_is)
    (case u1T => k_is)
    (case u1v => k_is)
    (case u2n => k_is)
    (case u2x => k_exc)
    (case u2g => k_is)
    (case u2h => k_is)
    (case u2c => k_is)
    (case u2b => k_is)
    (case u2o => k_is)
    (case u2i => k_is)
    (case u2t => k_is)
    (case u2T => k_is)
    (case u2v => k_is)
    (case u3n => k_is)
    (case u3x => k_exc)
    (case u3g => k_is)
    (case u3h => k_is)
    (case u3c => k_is)
    (case u3b => k_is)
    (case u3o => k_is)
    (case u3i => k_is)
    (case u3t => k_is)
    (case u3T => k_is)
    (case u3v => k_is)
    (case u4n => k_is)
    (case u4x => k_exc)
    (case u4g => k_is)
    (case u4h => k_is)
    (case u4c => k_is)
    (case u4b => k_is)
    (case u4o => k_is)
    (case u4i => k_is)
    (case u4t => k_is)
    (case u4T => k_is)
    (case u4v => k_is)
    (case u5n => k_is)
    (case u5x => k_exc)
    (case u5g => k_is)
    (case u5h => k_is)
    (case u5c => k_is)
    (case u5b => k_is)
    (case u5o => k_is)
    (case u5i => k_is)
    (case u5t => k_is)
    (case u5T => k_is)
    (case u5v => k_is)
    (case u6n => k_is)
    (case u6x => k_exc)
    (case u6g => k_is)
    (case u6h => k_is)
    (case u6c => k_is)
    (case u6b => k_is)
    (case u6o => k_is)
    (case u6i => k_is)
    (case u6t => k_is)
    (case u6T => k_is)
    (case u6v => k_is)
    (case u7n => k_is)
    (case u7x => k_exc)
    (case u7g => k_is)
    (case u7h => k_is)
    (case u7c => k_is)
    (case u7b => k_is)
    (case u7o => k_is)
    (case u7i => k_is)
    (case u7t => k_is)
    (case u7T => k_is)
    (case u7v => k_is)
    (case u8n => k_is)
    (case u8x => k_exc)
    (case u8g => k_is)
    (case u8h => k_is)
    (case u8c => k_is)
    (case u8b => k_is)
    (case u8o => k_is)
    (case u8i => k_is)
    (case u8t => k_is)
    (case u8T => k_is)
    (case u8v => k_is)
    (case u9n => k_is)
    (case u9x => k_exc)
    (case u9g => k_is)
    (case u9h => k_is)
    (case u9c => k_is)
    (case u9b => k_is)
    (case u9o => k_is)
    (case u9i => k_is)
    (case u9t => k_is)
    (case u9T => k_is)
    (case u9v => k_is)
    (case u0p0 => k_is)
    (case u0p1 => k_is)
    (case u0p2 => k_is)
    (case u0p3 => k_is)
    (case u0p4 => k_is)
    (case u0p5 => k_is)
    (case u0p6 => k_is)
    (case u0p7 => k_is)
    (case u0p8 => k_is)
    (case u0p9 => k_is)
    (case u1p0 => k_is)
    (case u1p1 => k_is)
    (case u1p2 => k_is)
    (case u1p3 => k_is)
    (case u1p4 => k_is)
    (case u1p5 => k_is)
    (case u1p6 => k_is)
    (case u1p7 => k_is)
    (case u1p8 => k_is)
    (case u1p9 => k_is)
    (case u2p0 => k_is)
    (case u2p1 => k_is)
    (case u2p2 => k_is)
    (case u2p3 => k_is)
    (case u2p4 => k_is)
    (case u2p5 => k_is)
    (case u2p6 => k_is)
    (case u2p7 => k_is)
    (case u2p8 => k_is)
    (case u2p9 => k_is)
    (case u3p0 => k_is)
    (case u3p1 => k_is)
    (case u3p2 => k_is)
    (case u3p3 => k_is)
    (case u3p4 => k_is)
    (case u3p5 => k_is)
    (case u3p6 => k_is)
    (case u3p7 => k_is)
    (case u3p8 => k_is)
    (case u3p9 => k_is)
    (case u4p0 => k_is)
    (case u4p1 => k_is)
    (case u4p2 => k_is)
    (case u4p3 => k_is)
    (case u4p4 => k_is)
    (case u4p5 => k_is)
    (case u4p6 => k_is)
    (case u4p7 => k_is)
    (case u4p8 => k_is)
    (case u4p9 => k_is)
    (case u5p0 => k_is)
    (case u5p1 => k_is)
    (case u5p2 => k_is)
    (case u5p3 => k_is)
    (case u5p4 => k_is)
    (case u5p5 => k_is)
    (case u5p6 => k_is)
    (case u5p7 => k_is)
    (case u5p8 => k_is)
    (case u5p9 => k_is)
    (case u6p0 => k_is)
    (case u6p1 => k_is)
    (case u6p2 => k_is)
    (case u6p3 => k_is)
    (case u6p4 => k_is)
    (case u6p5 => k_is)
    (case u6p6 => k_is)
    (case u6p7 => k_is)
    (case u6p8 => k_is)
    (case u6p9 => k_is)
    (case u7p0 => k_is)
    (case u7p1 => k_is)
    (case u7p2 => k_is)
    (case u7p3 => k_is)
    (case u7p4 => k_is)
    (case u7p5 => k_is)
    (case u7p6 => k_is)
    (case u7p7 => k_is)
    (case u7p8 => k_is)
    (case u7p9 => k_is)
    (case u8p0 => k_is)
    (case u8p1 => k_is)
    (case u8p2 => k_is)
    (case u8p3 => k_is)
    (case u8p4 => k_is)
    (case u8p5 => k_is)
    (case u8p6 => k_is)
    (case u8p7 => k_is)
    (case u8p8 => k_is)
    (case u8p9 => k_is)
    (case u9p0 => k_is)
    (case u9p1 => k_is)
    (case u9p2 => k_is)
    (case u9p3 => k_is)
    (case u9p4 => k_is)
    (case u9p5 => k_is)
    (case u9p6 => k_is)
    (case u9p7 => k_is)
    (case u9p8 => k_is)
    (case u9p9 => k_is)
#print axioms PySem.Challenge.cw_turnroots_k13_least_right_holds